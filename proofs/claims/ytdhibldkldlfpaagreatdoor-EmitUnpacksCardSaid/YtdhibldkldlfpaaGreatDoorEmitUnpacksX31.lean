/- Merged. -/
import Derived.Test.YtdhibldkldlfpaaGreatDoorEmitUnpacksX12
import Derived.RangeFuncNested
import Derived.Test.YtdhibldkldlfpaaGreatDoorEmitUnpacksX25
import Derived.Test.YtdhibldkldlfpaaGreatDoorEmitUnpacksX14
import Derived.Deep.DeepCutAuto
import Derived.Test.YtdhibldkldlfpaaGreatDoorEmitUnpacksX15
import Derived.Test.YtdhibldkldlfpaaGreatDoorEmitUnpacksX26
import Derived.Test.YtdhibldkldlfpaaGreatDoorEmitUnpacksX29
import Derived.StillTailTactics
import Derived.Test.YtdhibldkldlfpaaGreatDoorEmitUnpacksX8
import Derived.Test.YtdhibldkldlfpaaGreatDoorEmitUnpacksX4
namespace Go.Proofs.YtdhibldkldlfpaaGreatDoor
namespace Bk
end Bk
set_option linter.unusedVariables false
set_option maxHeartbeats 4000000
set_option maxRecDepth 100000
open Go.ChangeShapes Go.WideShapes Go.ChangeAt Go.RowKit Base cb
variable {a:Act} {ops:Array Oper} {rest:List Oper} {b g i j k n o base:Nat} {S:Nat→Prop} {p:Option Addr} {v:Value} {W w w':World}
namespace Bk
def au (W:World) (b:Nat) (t:TypeId) (cs:Array Value):Prop:=W.heap[b]? =some (.cells cs t (0,0))
section
variable {W W':World} {b:Nat} {t:TypeId} {cs:Array Value}
theorem au.lt (h:au W b t cs):b<W.heap.size:=(Array.getElem?_eq_some_iff.1 h).1
theorem au.cell (h:au W b t cs) (i:Nat):W.cell? ⟨b,i,none⟩=cs[i]? :=by simp[World.cell?,show W.heap[b]? =_ from h]
theorem au.frozen (h:au W b t cs) (i:Nat):W.frozen? ⟨b,i,none⟩=false:=by simp[World.frozen?,show W.heap[b]? =_ from h]
theorem au.new (W:World) (t:TypeId) (cs:Array Value):au (W.alloc (.cells cs t)) W.heap.size t cs:=World.alloc_heap_new W _
theorem au.kept (h:au W b t cs) {row:Option Nat} (hg:W.grownBy W' row) (hr:∀r,row=some r→∃o:Obj,W.heap[r]? =some o∧o.isCells=false):au W' b t cs:=
 (grownBy_keeps_cells hg hr h rfl).trans h
theorem au.alloc (h:au W b t cs) (o:Obj):au (W.alloc o) b t cs:=h.kept (World.grownBy_alloc W o none) (fun r e=>by cases e)
theorem au.drewN (h:au W b t cs) (n:Nat):au (W.drewN n) b t cs:=h
theorem au.drew (h:au W b t cs):au W.drew b t cs:=h
theorem au.below (h:au W b t cs) (hb:Below n W W') (hn:b<n):au W' b t cs:=(hb.block b hn).trans h
theorem au.iH (h:au W b t cs) (hk:Kept S W W') (hn:¬S b):au W' b t cs:=hk.some_ h hn
theorem au.set (h:au W b t cs) (i:Nat) (v:Value) (hi:i<cs.size):au (W.setCell ⟨b,i,none⟩ v) b t (cs.set i v hi):=by
 obtain⟨hl,he⟩:=Array.getElem?_eq_some_iff.1 h;unfold au World.setCell;refine Array.getElem?_eq_some_iff.2 ⟨by simpa using hl,?_⟩;rw[Array.getElem_modify,if_pos rfl,he];simp[Array.setIfInBounds,hi]
theorem au.other (h:au W b t cs) {b':Nat} (ck:b'≠b) (v:Value):au (W.setCell ⟨b',i,none⟩ v) b t cs:=by
 unfold au;rw[Below.heap_setCell _ _ _ _ (fun e=>ck (by simpa using e.symm))];exact h
end
end Bk
namespace Mem
open iK Bk Go.Lib
structure MP where
 m:aB
 p:Option Addr
 c:Nat
def aa4:aB:=⟨[],[],0,0,0,0,0,[]⟩
def cz:MP:=⟨aa4,none,0⟩
def jB (m:aB) (p:Option Addr) (c:Nat):Array Value:=#[.string (str m.path),.string (str m.target),.int .u8 (m.kind.toNat:Int),.int .i64 m.mode,.int .i64 m.uid,.int .i64 m.gid,.int .i64 m.time,.slice p m.body.length c]
def MP.cs (x:MP):Array Value:=jB x.m x.p x.c
theorem MP.qp (x:MP):x.cs.toList=[.string (str x.m.path),.string (str x.m.target),.int .u8 (x.m.kind.toNat:Int),.int .i64 x.m.mode,.int .i64 x.m.uid,.int .i64 x.m.gid,.int .i64 x.m.time,.slice x.p x.m.body.length x.c]:=rfl
structure js (w:World) (x:MP):Prop where
 nB:iC w x.p x.m.body.length x.m.body
 le:x.m.body.length≤x.c
 mx:x.c≤maxLen
theorem js.kept {x:MP} (h:js w x) (hk:Kept S w w') (hn:0<x.m.body.length→∀a,x.p=some a→¬S a.block):js w' x:=⟨h.nB.kept hk hn,h.le,h.mx⟩
theorem js.below {x:MP} (h:js w x) (hb:Below w.heap.size w w'):js w' x:=⟨h.nB.below hb,h.le,h.mx⟩
def k8 (xs:List MP):List Value:=xs.flatMap fun x=>x.cs.toList
theorem LQ (x:MP) (xs:List MP):k8 (x::xs)=x.cs.toList++k8 xs:=rfl
theorem Cd (xs:List MP) (x:MP):k8 (xs++[x])=k8 xs++x.cs.toList:=by simp[k8]
theorem QG (xs:List MP):∀i,i<xs.length→∀j,j<8→(k8 xs)[8*i+j]? =(xs.getD i cz).cs[j]? :=by
 induction xs with
 |nil=>intro i h;simp at h
 |cons x xs ih=>
  intro i h j A;rw[LQ];have hl:x.cs.toList.length=8:=rfl
  cases i with
  |zero=>rw[List.getElem?_append_left (by omega),show 8*0+j=j by omega,Array.getElem?_toList];rfl
  |succ i=>
   rw[List.getElem?_append_right (by omega),hl,show 8*(i+1)+j - 8=8*i+j by omega,ih i (by simpa using h) j A];rfl
theorem ET (xs:List MP):∀u∈k8 xs,u.oneCell'=true:=by
 intro u hu;obtain⟨x,_,A⟩:=List.mem_flatMap.1 hu;rw[MP.qp]at A;simp only[List.mem_cons,List.not_mem_nil,or_false]at A;rcases A with rfl|rfl|rfl|rfl|rfl|rfl|rfl|rfl<;>rfl
def jI (w:World) (p:Option Addr) (n:Nat) (xs:List MP):Prop:=
 xs.length=n∧(∀x∈xs,js w x)∧(0<n→∃b o,p=some ⟨b,o,none⟩∧b<w.heap.size∧∀i,i<n→∀j,j<8→w.cell? ⟨b,o+8*i+j,none⟩=(xs.getD i cz).cs[j]?)
theorem jI.below {xs:List MP} (h:jI w p n xs) (hb:Below w.heap.size w w'):jI w' p n xs:=by
 refine⟨h.1,fun x E=>(h.2.1 x E).below hb,fun B=>?_⟩;obtain⟨b,o,rfl,A,hc⟩:=h.2.2 B;refine⟨b,o,rfl,Nat.lt_of_lt_of_le A hb.size,fun i hi j D=>?_⟩;rw[hb.cell (p:=⟨b,o+8*i+j,none⟩) A];exact hc i hi j D
theorem yo (w:World) (p:Option Addr):jI w p 0 []:=⟨rfl,fun x A=>by simp at A,fun h=>by omega⟩
theorem oN {e:TypeId} {xs:List MP} (h:w.ownsRow base e 8 v xs.length (k8 xs)) (hx:∀x∈xs,js w x):∃p c,v=.slice p xs.length c∧xs.length≤c∧c≤maxLen∧jI w p xs.length xs:=by
 rcases h.2 with⟨rfl,A⟩|⟨g,cap,cur,rfl,hb,hg,hn,hc,hs,ht⟩
 ·exact⟨none,0,by rw[A],by omega,by decide,rfl,hx,fun h=>by omega⟩
 ·refine⟨some ⟨g,0,none⟩,cap,rfl,hn,hc,rfl,hx,fun A=>⟨g,0,rfl,(Array.getElem?_eq_some_iff.1 hg).1,fun i hi j B=>?_⟩⟩
  have get:∀j,j<8*xs.length→w.cell? ⟨g,j,none⟩=(k8 xs)[j]? :=fun j B=>by
   unfold World.cell?;rw[hg,←ht,List.getElem?_take,if_pos (by omega)];simp
  rw[Nat.zero_add,get _ (by omega)];exact QG xs i hi j B
theorem jI.cells {xs:List MP} (h:jI w p n xs) (hi:i<n):∃b o,p=some ⟨b,o,none⟩∧b<w.heap.size∧js w (xs.getD i cz)∧
 w.cell? ⟨b,o+8*i,none⟩=some (.string (str (xs.getD i cz).m.path))∧w.cell? ⟨b,o+8*i+1,none⟩=some (.string (str (xs.getD i cz).m.target))∧
 w.cell? ⟨b,o+8*i+2,none⟩=some (.int .u8 ((xs.getD i cz).m.kind.toNat:Int))∧w.cell? ⟨b,o+8*i+3,none⟩=some (.int .i64 (xs.getD i cz).m.mode)∧
 w.cell? ⟨b,o+8*i+4,none⟩=some (.int .i64 (xs.getD i cz).m.uid)∧w.cell? ⟨b,o+8*i+5,none⟩=some (.int .i64 (xs.getD i cz).m.gid)∧
 w.cell? ⟨b,o+8*i+6,none⟩=some (.int .i64 (xs.getD i cz).m.time)∧w.cell? ⟨b,o+8*i+7,none⟩=some (.slice (xs.getD i cz).p (xs.getD i cz).m.body.length (xs.getD i cz).c):=by
 obtain⟨b,o,rfl,B,hc⟩:=h.2.2 (by omega)
 have A:js w (xs.getD i cz):=h.2.1 _ (by
  have hl:i<xs.length:=by rw[h.1];exact hi
  rw[List.getD,Qd hl]
  exact List.getElem_mem hl)
 exact⟨b,o,rfl,B,A,hc i hi 0 (by omega),hc i hi 1 (by omega),hc i hi 2 (by omega),hc i hi 3 (by omega),hc i hi 4 (by omega),hc i hi 5 (by omega),hc i hi 6 (by omega),hc i hi 7 (by omega)⟩
theorem GV:(Tryz.prog.info? 48).map (fun i=>(i.zero,i.size,i.bytes))=some (some (.agg #[.string ⟨#[]⟩,.string ⟨#[]⟩,.int .u8 0,.int .i64 0,.int .i64 0,.int .i64 0,.int .i64 0,.slice none 0 0]),8,96):=by kernel_rfl
theorem kK {P:Program} (base:Nat) (t ty e:TypeId) (i:TypeInfo) (z:Value) (size bytes:Nat) (ht:P.underlying t=some (.slice e)) (hi:P.info? e=some i) (hz:i.zero=some z)
 (kl:i.size=size) (sa:i.bytes=bytes) (Yl:z.cells.size=size) (hsz:0<size)
 (v:Value) (n:Nat) (xs:List Value) (aK:w.ownsRow base e size v n xs)
 (a:Addr) (m c:Nat) (news:List Value) (hl:news.length=m*size) (uG:∀j u,news[j]? =some u→w.cell? (a.add j)=some u) (h1:∀u∈news,u.oneCell'=true)
 (XY:n+m≤maxLen) (tw:(n+m)*bytes≤140737488355328) (jx:base≤w.heap.size):
 ∃v' w',(Builtin.append_ #[t,t] ty #[v,.slice (some a) m c]).run P w=.ok v' w'∧w'.ownsRow base e size v' (n+m) (xs++news)∧w.grownBy w' v.ownBlock∧jX w v v':=by
 obtain⟨v',w',B,H,I,M⟩:=run_append_own (P:=P) w base t ty e i z size bytes ht hi hz kl sa Yl hsz v n xs aK a m c news hl uG h1 XY tw jx;refine⟨v',w',B,H,I,?_⟩;have E:=aK;rcases aK.2 with⟨rfl,rfl⟩|⟨g,cap,cur,rfl,Ul,hg,Jo,Bu,hcs,aq6⟩
 ·have J:xs=[]:=List.eq_nil_of_length_eq_zero (by simpa using aK.1)
  subst J;obtain⟨v2,L,A,D,_,_⟩:=run_append_own (P:=P) w w.heap.size t ty e i z size bytes ht hi hz kl sa Yl hsz _ 0 [] (World.ownsRow_nil w w.heap.size e size) a m c news hl uG h1 XY tw (Qk _);rw[B]at A
  cases A
  exact fun k hk=>Or.inr (D.lt k hk).1
 ·by_cases G:n+m≤cap
  ·obtain⟨L,A,_,_⟩:=run_append_own_spare (P:=P) w base t ty e i size ht hi kl g n cap xs E a m c news hl uG h1 G
   rw[B]at A
   cases A
   exact fun k hk=>Or.inl hk
  ·have holds:∀j u,xs[j]? =some u→w.cell? ((⟨g,0,none⟩:Addr).add j)=some u:=E.cells (g:=g) rfl
   have A:=run_append_grow (P:=P) w t ty e i z ht hi hz ⟨g,0,none⟩ n cap xs (by rw[kl];exact E.1) holds a m c news (by rw[kl];exact hl) uG (by omega) (by unfold maxLen at XY;omega) (growslice_fits (by omega) (by rw[sa];exact tw));rw[B]at A
   cases A
   exact fun k hk=>Or.inr (by simp[Value.ownBlock]at hk;omega)
theorem DZ {o:Oper} {Q:Exit→Act→World→Prop} (vI:o.guard=none) (s x:Operand)
 (ho:o.op=.call {callee:=.builtin .append,args:=#[s,x],argTypes:=#[38,38]})
 (base:Nat) (v:Value) (xs:List MP) (hs:a.eval s=v) (aK:w.ownsRow base 48 8 v xs.length (k8 xs))
 (b:Nat) (c:Nat) (y:MP) (hx:a.eval x=.slice (some ⟨b,0,none⟩) 1 c) (hb:au w b 48 y.cs) (qy:xs.length≤1000000) (jx:base≤w.heap.size)
 (h:∀v' w',w'.ownsRow base 48 8 v' (xs++[y]).length (k8 (xs++[y]))→w.grownBy w' v.ownBlock→jX w v v'→wpList Tryz.prog ops Q rest (a.put o.dst v') w'):wpList Tryz.prog ops Q (o::rest) a w:=by
 obtain⟨i0,hi,L,I,J⟩:=info_parts GV
 obtain⟨v',w',H,A,B,D⟩:=kK (P:=Tryz.prog) base 38 o.type 48 i0 _ 8 96 Tryz.underlying38 hi L I J rfl (by decide) v xs.length (k8 xs) aK ⟨b,0,none⟩ 1 c y.cs.toList rfl (by
  intro j u G;rw[WideShapes.add_plain,Nat.zero_add,hb.cell,←Array.getElem?_toList]
  exact G) (fun u hu=>ET [y] u (by simpa [k8]using hu)) (by unfold maxLen;omega) (by omega) jx
 refine wpList_plain vI fun K E=>?_
 unfold Oper.wp;simp[execOp,ho,resolve,invoke,builtin,hs,hx,H,Result.andThen];rw[←Cd,show xs.length+1=(xs++[y]).length by simp]at A;exact E _ _ (h v' w' A B D)
theorem xr (xs:List MP) (k:Nat) (h:k<xs.length):(xs.take (k+1)).map MP.m=(xs.take k).map MP.m++[(xs.getD k cz).m]:=by
 rw[List.take_succ_eq_append_getElem h,List.map_append,List.getD,Qd h];rfl
theorem qS (xs:List MP) (k:Nat) (h:k<xs.length):xs.getD k cz∈xs:=by
 rw[List.getD,Qd h];exact List.getElem_mem h
theorem qP {m:Nat} {bs:List UInt8} (h:iC w p m bs) (h0:0<m) {y:Addr} (hy:p=some y):y.block<w.heap.size:=by
 obtain⟨b,o,he,A,_⟩:=h.cell h0;rw[hy]at he
 cases he
 exact A
def yN (w:World) (b o:Nat) (y:MP):Prop:=
 w.cell? ⟨b,o,none⟩=some (.string (str y.m.path))∧w.cell? ⟨b,o+1,none⟩=some (.string (str y.m.target))∧w.cell? ⟨b,o+2,none⟩=some (.int .u8 (y.m.kind.toNat:Int))∧w.cell? ⟨b,o+3,none⟩=some (.int .i64 y.m.mode)∧
 w.cell? ⟨b,o+4,none⟩=some (.int .i64 y.m.uid)∧w.cell? ⟨b,o+5,none⟩=some (.int .i64 y.m.gid)∧w.cell? ⟨b,o+6,none⟩=some (.int .i64 y.m.time)∧w.cell? ⟨b,o+7,none⟩=some (.slice y.p y.m.body.length y.c)
theorem yN.below {y:MP} (h:yN w b o y) (hb:b<w.heap.size) (hw:Below w.heap.size w w'):yN w' b o y:=by
 unfold yN at h⊢;simp only[hw.cell (p:=⟨b,_,none⟩) hb];exact h
theorem jI.p6 {xs:List MP} (h:jI w p n xs) (hi:i<n):∃b o,p=some ⟨b,o,none⟩∧b<w.heap.size∧js w (xs.getD i cz)∧yN w b (o+i*8) (xs.getD i cz):=by
 obtain⟨b,o,E,D,B,c0,c1,c2,c3,A,c5,c6,c7⟩:=h.cells hi;rw[Nat.mul_comm]at c0 c1 c2 c3 A c5 c6 c7;exact⟨b,o,E,D,B,c0,c1,c2,c3,A,c5,c6,c7⟩
end Mem
namespace kY
open iK Bk Mem Go.Lib
variable {ys:List aC} {h:Nat} {t:TypeId}
structure NP where
 m:aC
 p:Option Addr
 c:Nat
def aT:NP:=⟨iO,none,0⟩
def tH (m:aC) (p:Option Addr) (c:Nat):Array Value:=#[.string (str m.path),.string (str m.target),.string (str m.ao),.int .u8 (m.kind.toNat:Int),.int .i64 m.mode,.int .i64 m.uid,.int .i64 m.gid,.int .i64 m.time,.slice p m.body.length c]
def NP.cs (x:NP):Array Value:=tH x.m x.p x.c
theorem NP.qp (x:NP):x.cs.toList=[.string (str x.m.path),.string (str x.m.target),.string (str x.m.ao),.int .u8 (x.m.kind.toNat:Int),.int .i64 x.m.mode,.int .i64 x.m.uid,.int .i64 x.m.gid,.int .i64 x.m.time,.slice x.p x.m.body.length x.c]:=rfl
structure je (w:World) (x:NP):Prop where
 nB:iC w x.p x.m.body.length x.m.body
 le:x.m.body.length≤x.c
 mx:x.c≤maxLen
theorem je.kept {x:NP} (h:je w x) (hk:Kept S w w') (hn:0<x.m.body.length→∀a,x.p=some a→¬S a.block):je w' x:=⟨h.nB.kept hk hn,h.le,h.mx⟩
theorem je.below {x:NP} (h:je w x) (hb:Below w.heap.size w w'):je w' x:=⟨h.nB.below hb,h.le,h.mx⟩
def j5 (xs:List NP):List Value:=xs.flatMap fun x=>x.cs.toList
theorem Ce (x:NP) (xs:List NP):j5 (x::xs)=x.cs.toList++j5 xs:=rfl
theorem xY (xs:List NP):(j5 xs).length=9*xs.length:=by
 induction xs with
 |nil=>rfl
 |cons x xs ih=>rw[Ce,Qf,ih,NP.qp,List.length_cons];simp only[List.length_cons,List.length_nil];omega
theorem LR (xs:List NP) (x:NP):j5 (xs++[x])=j5 xs++x.cs.toList:=by simp[j5]
theorem pe (xs:List NP):∀i,i<xs.length→∀j,j<9→(j5 xs)[9*i+j]? =(xs.getD i aT).cs[j]? :=by
 induction xs with
 |nil=>intro i h;simp at h
 |cons x xs ih=>
  intro i h j A;rw[Ce];have hl:x.cs.toList.length=9:=rfl
  cases i with
  |zero=>rw[List.getElem?_append_left (by omega),show 9*0+j=j by omega,Array.getElem?_toList];rfl
  |succ i=>
   rw[List.getElem?_append_right (by omega),hl,show 9*(i+1)+j - 9=9*i+j by omega,ih i (by simpa using h) j A];rfl
theorem QH (xs:List NP):∀u∈j5 xs,u.oneCell'=true:=by
 intro u hu;obtain⟨x,_,A⟩:=List.mem_flatMap.1 hu;rw[NP.qp]at A;simp only[List.mem_cons,List.not_mem_nil,or_false]at A;rcases A with rfl|rfl|rfl|rfl|rfl|rfl|rfl|rfl|rfl<;>rfl
def bU (w:World) (p:Option Addr) (n:Nat) (xs:List NP):Prop:=
 xs.length=n∧(∀x∈xs,je w x)∧(0<n→∃b o,p=some ⟨b,o,none⟩∧b<w.heap.size∧∀i,i<n→∀j,j<9→w.cell? ⟨b,o+9*i+j,none⟩=(xs.getD i aT).cs[j]?)
theorem bU.below {xs:List NP} (h:bU w p n xs) (hb:Below w.heap.size w w'):bU w' p n xs:=by
 refine⟨h.1,fun x E=>(h.2.1 x E).below hb,fun B=>?_⟩;obtain⟨b,o,rfl,A,hc⟩:=h.2.2 B;refine⟨b,o,rfl,Nat.lt_of_lt_of_le A hb.size,fun i hi j D=>?_⟩;rw[hb.cell (p:=⟨b,o+9*i+j,none⟩) A];exact hc i hi j D
theorem zt (w:World) (p:Option Addr):bU w p 0 []:=⟨rfl,fun x A=>by simp at A,fun h=>by omega⟩
theorem Ry {e:TypeId} {xs:List NP} (h:w.ownsRow base e 9 v xs.length (j5 xs)) (hx:∀x∈xs,je w x):∃p c,v=.slice p xs.length c∧xs.length≤c∧c≤maxLen∧bU w p xs.length xs:=by
 rcases h.2 with⟨rfl,A⟩|⟨g,cap,cur,rfl,hb,hg,hn,hc,hs,ht⟩
 ·exact⟨none,0,by rw[A],by omega,by decide,rfl,hx,fun h=>by omega⟩
 ·refine⟨some ⟨g,0,none⟩,cap,rfl,hn,hc,rfl,hx,fun A=>⟨g,0,rfl,(Array.getElem?_eq_some_iff.1 hg).1,fun i hi j B=>?_⟩⟩
  have get:∀j,j<9*xs.length→w.cell? ⟨g,j,none⟩=(j5 xs)[j]? :=fun j B=>by
   unfold World.cell?;rw[hg,←ht,List.getElem?_take,if_pos (by omega)];simp
  rw[Nat.zero_add,get _ (by omega)];exact pe xs i hi j B
def kX (w:World) (b o:Nat) (y:NP):Prop:=
 w.cell? ⟨b,o,none⟩=some (.string (str y.m.path))∧w.cell? ⟨b,o+1,none⟩=some (.string (str y.m.target))∧w.cell? ⟨b,o+2,none⟩=some (.string (str y.m.ao))∧w.cell? ⟨b,o+3,none⟩=some (.int .u8 (y.m.kind.toNat:Int))∧w.cell? ⟨b,o+4,none⟩=some (.int .i64 y.m.mode)∧
 w.cell? ⟨b,o+5,none⟩=some (.int .i64 y.m.uid)∧w.cell? ⟨b,o+6,none⟩=some (.int .i64 y.m.gid)∧w.cell? ⟨b,o+7,none⟩=some (.int .i64 y.m.time)∧w.cell? ⟨b,o+8,none⟩=some (.slice y.p y.m.body.length y.c)
theorem kX.below {y:NP} (h:kX w b o y) (hb:b<w.heap.size) (hw:Below w.heap.size w w'):kX w' b o y:=by
 unfold kX at h⊢;simp only[hw.cell (p:=⟨b,_,none⟩) hb];exact h
theorem bU.kZ {xs:List NP} (h:bU w p n xs) (hi:i<n):∃b o,p=some ⟨b,o,none⟩∧b<w.heap.size∧je w (xs.getD i aT)∧kX w b (o+i*9) (xs.getD i aT):=by
 obtain⟨b,o,rfl,B,hc⟩:=h.2.2 (by omega)
 have A:je w (xs.getD i aT):=h.2.1 _ (by
  have hl:i<xs.length:=by rw[h.1];exact hi
  rw[List.getD,Qd hl]
  exact List.getElem_mem hl)
 rw[Nat.mul_comm i 9];exact⟨b,o,rfl,B,A,hc i hi 0 (by omega),hc i hi 1 (by omega),hc i hi 2 (by omega),hc i hi 3 (by omega),hc i hi 4 (by omega),hc i hi 5 (by omega),hc i hi 6 (by omega),hc i hi 7 (by omega),hc i hi 8 (by omega)⟩
theorem nW {y:NP} (h:au w b 52 y.cs):kX w b 0 y:=by
 refine⟨h.cell 0,h.cell 1,h.cell 2,h.cell 3,h.cell 4,h.cell 5,h.cell 6,h.cell 7,h.cell 8⟩
theorem NB (xs:List NP) (k:Nat) (h:k<xs.length):(xs.take (k+1)).map NP.m=(xs.take k).map NP.m++[(xs.getD k aT).m]:=by
 rw[List.take_succ_eq_append_getElem h,List.map_append,List.getD,Qd h];rfl
theorem T8 (xs:List NP) (k:Nat) (h:k<xs.length):xs.getD k aT∈xs:=by
 rw[List.getD,Qd h];exact List.getElem_mem h
theorem uE (xs:List NP) (k:Nat):(xs.map NP.m).getD k iO=(xs.getD k aT).m:=by
 rw[List.getD,List.getD,List.getElem?_map]
 cases xs[k]? <;>rfl
theorem bU.drop {xs:List NP} (h:bU w p n xs) (hk:k≤n):bU w p k (xs.take k):=by
 refine⟨by rw[Qg,h.1];omega,fun x D=>h.2.1 x (List.mem_of_mem_take D),fun E=>?_⟩;obtain⟨b,o,rfl,A,hc⟩:=h.2.2 (by omega);refine⟨b,o,rfl,A,fun i hi j B=>?_⟩;rw[hc i (by omega) j B]
 congr 2
 simp[List.getD,hi]
theorem MS (xs ys:List NP) (hl:xs.length=ys.length) (h:∀j,j<xs.length→(xs.getD j aT).m=(ys.getD j aT).m):xs.map NP.m=ys.map NP.m:=by
 apply List.ext_getElem (by simpa using hl);intro i h1 A;simp only[Qi]at h1 A;have:=h i h1;rw[List.getD,List.getD,Qd h1,Qd A]at this
 simpa using this
theorem yq (xs ys:List NP) (j:Nat) (hj:j<xs.length) (Ao:j<ys.length) (h:(xs.getD j aT).m≠(ys.getD j aT).m):¬xs.map NP.m=ys.map NP.m:=fun he=>h (by
 have:=congrArg (fun l=>l[j]?) he;simp only[List.getElem?_map,Qd hj,Qd Ao,Option.map_some,Option.some.injEq]at this;rw[List.getD,List.getD,Qd hj,Qd Ao]
 simpa using this)
theorem GX:(Tryz.prog.info? 52).map (fun i=>(i.zero,i.size,i.bytes))=some (some (.agg #[.string ⟨#[]⟩,.string ⟨#[]⟩,.string ⟨#[]⟩,.int .u8 0,.int .i64 0,.int .i64 0,.int .i64 0,.int .i64 0,.slice none 0 0]),9,112):=by kernel_rfl
theorem zY {o:Oper} {Q:Exit→Act→World→Prop} (vI:o.guard=none) (s x:Operand)
 (ho:o.op=.call {callee:=.builtin .append,args:=#[s,x],argTypes:=#[22,22]})
 (base:Nat) (v:Value) (xs:List NP) (hs:a.eval s=v) (aK:w.ownsRow base 52 9 v xs.length (j5 xs))
 (b:Nat) (c:Nat) (y:NP) (hx:a.eval x=.slice (some ⟨b,0,none⟩) 1 c) (hb:au w b 52 y.cs) (qy:xs.length≤1000000) (jx:base≤w.heap.size)
 (h:∀v' w',w'.ownsRow base 52 9 v' (xs++[y]).length (j5 (xs++[y]))→w.grownBy w' v.ownBlock→jX w v v'→wpList Tryz.prog ops Q rest (a.put o.dst v') w'):wpList Tryz.prog ops Q (o::rest) a w:=by
 obtain⟨i0,hi,L,I,J⟩:=info_parts GX
 obtain⟨v',w',H,A,B,D⟩:=kK (P:=Tryz.prog) base 22 o.type 52 i0 _ 9 112 Tryz.underlying22 hi L I J rfl (by decide) v xs.length (j5 xs) aK ⟨b,0,none⟩ 1 c y.cs.toList rfl (by
  intro j u G;rw[WideShapes.add_plain,Nat.zero_add,hb.cell,←Array.getElem?_toList]
  exact G) (fun u hu=>QH [y] u (by simpa [j5]using hu)) (by unfold maxLen;omega) (by omega) jx
 refine wpList_plain vI fun K E=>?_
 unfold Oper.wp;simp[execOp,ho,resolve,invoke,builtin,hs,hx,H,Result.andThen];rw[←LR,show xs.length+1=(xs++[y]).length by simp]at A;exact E _ _ (h v' w' A B D)
def yX (a b:List UInt8):Int:=if j1 a b=true then -1 else if j1 b a=true then 1 else 0
theorem Gk (a b:List UInt8):(yX a b<0)↔j1 a b=true:=by
 unfold yX
 by_cases h1:j1 a b=true
 ·simp[h1]
 ·by_cases A:j1 b a=true<;>simp[h1,A]
theorem EK (a b:List UInt8):yX a b=0↔a=b:=by
 unfold yX
 by_cases h1:j1 a b=true
 ·simp[h1,CQ h1]
 ·by_cases A:j1 b a=true
  ·simp only[h1,A,if_true,Bool.false_eq_true,if_false]
   exact⟨fun h=>by omega,fun h=>absurd h.symm (CQ A)⟩
  ·simp only[h1,A,Bool.false_eq_true,if_false,true_iff]
   exact OV a b (by simpa using h1) (by simpa using A)
theorem Ae (a b:List UInt8) (w:World):
 Calls Tryz.prog 88 #[.string (str a),.string (str b)] w fun e w'=>e=.returned (.int .i64 (yX a b))∧w=w':=by
 have h1:=Path.yi a b;have A:=Path.yi b a;change ∀w,Calls Tryz.prog 45 #[.string (str a),.string (str b)] w fun e w'=>e=.returned (.bool (j1 a b))∧w=w' at h1
 change ∀w,Calls Tryz.prog 45 #[.string (str b),.string (str a)] w fun e w'=>e=.returned (.bool (j1 b a))∧w=w' at A
 unfold yX;obtain⟨x,B⟩:∃x,j1 a b=x:=⟨_,rfl⟩
 obtain⟨y,hy⟩:∃y,j1 b a=y:=⟨_,rfl⟩
 rw[B]at h1⊢;rw[hy]at A⊢;clear B hy
 go_enter Tryz.func88,Tryz.ntmps88
 cases x with
 |true=>
  go_wp2_with fail
  refine(h1 _).mono ?_;rintro e w' ⟨rfl,rfl⟩;go_wp2;go_ret;exact⟨rfl,rfl⟩
 |false=>
  cases y with
  |true=>
   go_wp2_with fail
   refine(h1 _).mono ?_;rintro e w' ⟨rfl,rfl⟩;go_wp2_with fail;refine(A _).mono ?_;rintro e w' ⟨rfl,rfl⟩;go_wp2;go_ret;exact⟨rfl,rfl⟩
  |false=>
   go_wp2_with fail
   refine(h1 _).mono ?_;rintro e w' ⟨rfl,rfl⟩;go_wp2_with fail;refine(A _).mono ?_;rintro e w' ⟨rfl,rfl⟩;go_wp2;go_ret;exact⟨rfl,rfl⟩
theorem Dd (x:NP) (b:List UInt8) (w:World):
 Calls Tryz.prog 115 #[.agg x.cs,.string (str b)] w fun e w'=>e=.returned (.int .i64 (yX x.m.path b))∧Below w.heap.size w w':=by
 have D:=au.new w 52 x.cs;have c0:=D.cell 0;have A:Below w.heap.size w (w.alloc (.cells x.cs 52)):=(Below.refl _ _).alloc (Qk _) _;obtain⟨W,B⟩:∃W,w.alloc (.cells x.cs 52)=W:=⟨_,rfl⟩
 unfold NP.cs tH at B c0 D A⊢;rw[B]at c0 A;simp only[Qc,Qa]at c0;have H:=Qh B;have G:=Qh A;have hc:=Ae x.m.path b W;obtain⟨r,E⟩:∃r,yX x.m.path b=r:=⟨_,rfl⟩
 rw[E]at hc⊢;have HC:=Qh hc;clear B A D hc E
 go_enter Tryz.func115,Tryz.ntmps115
 go_upto_region 1 with fail
 rw[H.out];go_wp2_with fail;refine HC.out.mono ?_;rintro e w' ⟨rfl,rfl⟩;go_wp2;go_ret;exact⟨rfl,G.out⟩
def ID (ys:List aC) (b:List UInt8) (w:World) (e:Ending) (w':World):Prop:=
 ∃(k:Nat) (r:Bool),e=.returned (.tuple #[.int .i64 (k:Int),.bool r])∧k≤ys.length∧(r=true→k<ys.length∧(ys.getD k iO).path=b)∧(nz ys→r=false→∀y∈ys,y.path≠b)∧Below w.heap.size w w'
theorem pz (h:nz ys) (A8:i<j) (hj:j<ys.length):j1 (ys.getD i iO).path (ys.getD j iO).path=true:=by
 have hi:i<ys.length:=by omega
 have:=List.pairwise_iff_getElem.1 h i j hi hj A8;rw[List.getD,List.getD,Qd hi,Qd hj];exact this
theorem Al {y:aC} (h:y∈ys):∃i,i<ys.length∧ys.getD i iO=y:=by
 obtain⟨i,hi,he⟩:=List.mem_iff_getElem.1 h;exact⟨i,hi,by rw[List.getD,Qd hi];exact he⟩
def BL (ys:List aC) (b:List UInt8) (i j:Nat):Prop:=
 nz ys→(∀k,k<i→j1 (ys.getD k iO).path b=true)∧(∀k,j≤k→k<ys.length→j1 (ys.getD k iO).path b=false)
theorem BL.up {b:List UInt8} (hr:BL ys b i j) (hh:j1 (ys.getD h iO).path b=true) (hl:h<ys.length):BL ys b (h+1) j:=fun hs=>by
 refine⟨fun k hk=>?_,(hr hs).2⟩;rcases Nat.lt_succ_iff_lt_or_eq.1 hk with hk|rfl
 ·exact nY _ _ _ (pz hs hk hl) hh
 ·exact hh
theorem BL.down {b:List UInt8} (hr:BL ys b i j) (hh:j1 (ys.getD h iO).path b=false):BL ys b i h:=fun hs=>by
 refine⟨(hr hs).1,fun k hk hl=>?_⟩;rcases Nat.lt_or_eq_of_le hk with hk|rfl
 ·cases hc:j1 (ys.getD k iO).path b with
  |false=>rfl
  |true=>rw[nY _ _ _ (pz hs hk hl) hc]at hh;cases hh
 ·exact hh
theorem BL.none_ {b:List UInt8} (hr:BL ys b i i) (ck:i<ys.length→(ys.getD i iO).path≠b) (hs:nz ys):∀y∈ys,y.path≠b:=fun y hy e=>by
 obtain⟨k,hk,rfl⟩:=Al hy;obtain⟨h1,B⟩:=hr hs;rcases Nat.lt_trichotomy k i with h|h|h
 ·exact CQ (h1 k h) e
 ·subst h;exact ck hk e
 ·have A:=pz hs h hk
  rw[e,B i (Qk _) (by omega)]at A
  cases A
theorem V6 (p:Option Addr) (n c:Nat) (xs:List NP) (b:List UInt8) (w:World) (h:bU w p n xs) (hn:n≤1000000000):
 Calls Tryz.prog 114 #[.slice p n c,.string (str b),.func (.func 115) #[] #[]] w (ID (xs.map NP.m) b w):=by
 have l:=Qh h;have G:=Qh h.1;clear h
 go_enter Tryz.func114,Tryz.ntmps114
 go_wp2_with fail
 go_loopw [9,10,11] (fun f g vh wr=>∃(i j:Nat),i≤j∧j≤n∧f=.int .i64 (i:Int)∧g=.int .i64 (j:Int)∧Hid (BL (xs.map NP.m) b i j)∧Hid (Below w.heap.size w wr)) (fun f g _ _=>(RowKit.intOf g).toNat - (RowKit.intOf f).toNat)
 case atStart=>exact⟨0,n,Nat.zero_le _,Qk _,rfl,rfl,Qh (fun _=>⟨fun k hk=>by omega,fun k h1 z=>by rw[Qi,G.out]at z;omega⟩),Qh (Below.refl _ _)⟩
 case round=>
  obtain⟨i,j,A8,hj,rfl,rfl,U,B⟩:=hrel
  by_cases ay:i<j
  ·have q1:IntKind.i64.wrap ((i:Int)+(j:Int))=(i:Int)+(j:Int):=by rw[IntKind.wrap_i64];omega
   have qX:(i:Int)<(j:Int):=by omega
   obtain⟨h,hh⟩:∃h,(i+j) / 2=h:=⟨_,rfl⟩
   have ZK:i≤h:=by omega
   have ZL:h<j:=by omega
   obtain⟨u,o,rfl,Z,N,A⟩:=(l.out.below B.out).kZ (show h<n by omega);obtain⟨y,hy⟩:∃y,xs.getD h aT=y:=⟨_,rfl⟩
   rw[hy]at N A;obtain⟨c0,c1,c2,c3,O,c5,c6,c7,R⟩:=A;have D:=Dd y b wr;unfold NP.cs tH at D;obtain⟨r,H⟩:∃r,yX y.m.path b=r:=⟨_,rfl⟩
   rw[H]at D;have L:Hid (((xs.map NP.m).getD h iO).path=y.m.path):=Qh (by rw[uE,hy]);have J:=Qh H;have HC:=Qh D;clear D H hy Z N;have q2:(((i:Int)+(j:Int)) / 2)=(h:Int):=by omega
   by_cases M:r<0
   ·have V:Hid (BL (xs.map NP.m) b (h+1) j):=Qh (U.out.up (by rw[L.out,←Gk,J.out];exact M) (by rw[Qi,G.out];omega))
    go_wp2_with fail
    refine HC.out.mono ?_;rintro e q ⟨rfl,E⟩;have I:=Qh (B.out.trans (E.mono B.out.size));clear E c0 c1 c2 c3 O c5 c6 c7 R;go_wp2;go_roundw
    case rel=>exact⟨h+1,j,by omega,hj,by go_num,rfl,V,I⟩
    case measure=>simp[RowKit.intOf];omega
   ·have t:Hid (BL (xs.map NP.m) b i h):=Qh (U.out.down (by
     rw[L.out,Bool.eq_false_iff,ne_eq,←Gk,J.out];exact M))
    go_wp2_with fail
    refine HC.out.mono ?_;rintro e q ⟨rfl,E⟩;have I:=Qh (B.out.trans (E.mono B.out.size));clear E c0 c1 c2 c3 O c5 c6 c7 R;go_wp2;go_roundw
    case rel=>exact⟨i,h,by omega,by omega,rfl,by go_num,t,I⟩
    case measure=>simp[RowKit.intOf];omega
  ·have uh:¬((i:Int)<(j:Int)):=by omega
   have W:i=j:=by omega
   subst W
   by_cases d:i<n
   ·have X:(i:Int)<(n:Int):=by omega
    obtain⟨u,o,rfl,Z,N,A⟩:=(l.out.below B.out).kZ d;obtain⟨y,hy⟩:∃y,xs.getD i aT=y:=⟨_,rfl⟩
    rw[hy]at N A;obtain⟨c0,c1,c2,c3,O,c5,c6,c7,R⟩:=A;have D:=Dd y b wr;unfold NP.cs tH at D;obtain⟨r,H⟩:∃r,yX y.m.path b=r:=⟨_,rfl⟩
    rw[H]at D;have L:Hid (((xs.map NP.m).getD i iO).path=y.m.path):=Qh (by rw[uE,hy]);have J:=Qh H;have HC:=Qh D;clear D H hy Z N;go_wp2_with fail;refine HC.out.mono ?_;rintro e q ⟨rfl,E⟩;have I:=Qh (B.out.trans (E.mono B.out.size));clear E c0 c1 c2 c3 O c5 c6 c7 R
    by_cases T:r=0
    ·have P:Hid (i<(xs.map NP.m).length∧((xs.map NP.m).getD i iO).path=b):=Qh ⟨by rw[Qi,G.out];exact d,by rw[L.out];exact(EK _ _).1 (by rw[J.out,T])⟩
     have Y:(r==0)=true:=by simpa using T
     go_wp2;go_ret2;exact⟨i,true,rfl,by rw[Qi,G.out];omega,fun _=>P.out,(fun _ h=>by cases h),I.out⟩
    ·have Y:(r==0)=false:=by simpa using T
     have P:Hid (nz (xs.map NP.m)→∀y∈xs.map NP.m,y.path≠b):=Qh (U.out.none_ (fun _ e=>T (by rw[←J.out,EK,←L.out];exact e)));go_wp2;go_ret2;exact⟨i,false,rfl,by rw[Qi,G.out];omega,(fun h=>by cases h),fun h _=>P.out h,I.out⟩
   ·have X:¬(i:Int)<(n:Int):=by omega
    have P:Hid (nz (xs.map NP.m)→∀y∈xs.map NP.m,y.path≠b):=Qh (U.out.none_ (fun h=>absurd h (by rw[Qi,G.out];exact d)));go_wp2;go_ret2;exact⟨i,false,rfl,by rw[Qi,G.out];omega,(fun h=>by cases h),fun h _=>P.out h,B.out⟩
theorem zw (p:Option Addr) (n c:Nat) (xs:List NP) (b:List UInt8) (w:World) (h:bU w p n xs) (hn:n≤1000000000):
 Calls Tryz.prog 77 #[.slice p n c,.string (str b)] w (ID (xs.map NP.m) b w):=by
 have E:=Qh (V6 p n c xs b w h hn);clear h
 go_enter Tryz.func77,Tryz.ntmps77
 go_wp2_with fail
 refine E.out.mono ?_;rintro e G ⟨k,r,rfl,h1,A,B,D⟩;have P:=Qh (And.intro h1 (And.intro A (And.intro B D)));clear h1 A B D;go_wp2;go_ret2;exact⟨k,r,rfl,P.out⟩
def Rw (W:World) (g:Nat) (zs:List NP):Prop:=au W g 52 (j5 zs).toArray
theorem zg {ar:Array Value} {zs:List NP} (hs:ar.size=9*zs.length) (h:∀i,i<zs.length→∀j,j<9→ar[9*i+j]? =(zs.getD i aT).cs[j]?):ar=(j5 zs).toArray:=by
 apply Array.ext
 ·rw[hs];simp[xY]
 ·intro i h1 B
  have hi:i / 9<zs.length:=by omega
  have e:9*(i / 9)+i % 9=i:=by omega
  have A:=h (i / 9) hi (i % 9) (by omega);have a2:=pe zs (i / 9) hi (i % 9) (by omega);rw[e]at A a2;have:ar[i]? =(j5 zs).toArray[i]? :=by rw[A,←a2,Qc]
  rw[Array.getElem?_eq_getElem h1,Array.getElem?_eq_getElem B]at this;exact Option.some.inj this
theorem Rw.nodes {zs:List NP} (h:Rw W g zs) (hb:∀x∈zs,je W x):bU W (some ⟨g,0,none⟩) zs.length zs:=
 ⟨rfl,hb,fun _=>⟨g,0,rfl,au.lt h,fun i hi j A=>by rw[Nat.zero_add,au.cell h,Qc,pe zs i hi j A]⟩⟩
theorem Rw.kZ {zs:List NP} (h:Rw W g zs) (hk:k<zs.length):kX W g (k*9) (zs.getD k aT):=by
 have key:∀j,j<9→W.cell? ⟨g,k*9+j,none⟩=(zs.getD k aT).cs[j]? :=fun j A=>by
  rw[au.cell h,Qc,Nat.mul_comm,pe zs k hk j A]
 exact⟨key 0 (by omega),key 1 (by omega),key 2 (by omega),key 3 (by omega),key 4 (by omega),key 5 (by omega),key 6 (by omega),key 7 (by omega),key 8 (by omega)⟩
theorem getSet (zs:List NP) (k i:Nat) (y:NP) (hk:k<zs.length):(zs.set k y).getD i aT=if i=k then y else zs.getD i aT:=by
 rw[List.getD,List.getD,List.getElem?_set]
 by_cases h:k=i
 ·subst h
  simp[hk]
 ·rw[if_neg h,if_neg (fun e=>h e.symm)]
theorem EW (zs:List NP):(j5 zs).toArray.size=9*zs.length:=by simp[xY]
theorem aW {cs:Array Value} (h:au W b t cs) (i:Nat) (v:Value):au (W.setCell ⟨b,i,none⟩ v) b t (cs.setIfInBounds i v):=by
 obtain⟨hl,he⟩:=Array.getElem?_eq_some_iff.1 h;unfold au World.setCell;refine Array.getElem?_eq_some_iff.2 ⟨by simpa using hl,?_⟩;rw[Array.getElem_modify,if_pos rfl,he];rfl
def zB (A:Array Value) (b:Nat):List Value→Array Value
 |[]=>A
 |v::vs=>zB (A.setIfInBounds b v) (b+1) vs
theorem zC (vs:List Value):∀(A:Array Value) (b:Nat),(zB A b vs).size=A.size:=by
 induction vs with
 |nil=>intro A b;rfl
 |cons v vs ih=>intro A b;rw[zB,ih];simp
theorem Dw (vs:List Value):∀(A:Array Value) (b m:Nat),b+vs.length≤A.size→(zB A b vs)[m]? =if b≤m∧m<b+vs.length then vs[m - b]? else A[m]? :=by
 induction vs with
 |nil=>intro A b m _;rw[zB,if_neg (by simp only[List.length_nil];omega)]
 |cons v vs ih=>
  intro A b m h;rw[List.length_cons]at h;rw[zB,ih _ _ _ (by simp;omega),List.length_cons,Array.getElem?_setIfInBounds]
  by_cases h1:b=m
  ·subst h1
   rw[if_neg (by omega),if_pos rfl,if_pos (by omega),if_pos (by omega)];simp
  ·rw[if_neg h1]
   by_cases B:b+1≤m∧m<b+1+vs.length
   ·rw[if_pos B,if_pos (by omega),show m - b=(m - (b+1))+1 by omega,Qb]
   ·rw[if_neg B,if_neg (by omega)]
theorem Rw.set {zs:List NP} (h:Rw W g zs) (hk:k<zs.length) (y:NP):
 Rw (((((((((W.setCell ⟨g,k*9,none⟩ (.string (str y.m.path))).setCell ⟨g,k*9+1,none⟩ (.string (str y.m.target))).setCell ⟨g,k*9+2,none⟩ (.string (str y.m.ao))).setCell ⟨g,k*9+3,none⟩ (.int .u8 (y.m.kind.toNat:Int))).setCell ⟨g,k*9+4,none⟩ (.int .i64 y.m.mode)).setCell ⟨g,k*9+5,none⟩ (.int .i64 y.m.uid)).setCell ⟨g,k*9+6,none⟩ (.int .i64 y.m.gid)).setCell ⟨g,k*9+7,none⟩ (.int .i64 y.m.time)).setCell ⟨g,k*9+8,none⟩ (.slice y.p y.m.body.length y.c)) g (zs.set k y):=by
 have hs:=EW zs;have B:au W g 52 (j5 zs).toArray:=h;have E:=(aW (aW (aW (aW (aW (aW (aW (aW (aW B (k*9) (.string (str y.m.path))) (k*9+1) (.string (str y.m.target))) (k*9+2) (.string (str y.m.ao))) (k*9+3) (.int .u8 (y.m.kind.toNat:Int))) (k*9+4) (.int .i64 y.m.mode)) (k*9+5) (.int .i64 y.m.uid)) (k*9+6) (.int .i64 y.m.gid)) (k*9+7) (.int .i64 y.m.time)) (k*9+8) (.slice y.p y.m.body.length y.c))
 have e:zB (j5 zs).toArray (k*9) y.cs.toList=(j5 (zs.set k y)).toArray:=by
  apply zg
  ·rw[zC,List.length_set];exact hs
  ·intro i hi j D
   rw[List.length_set]at hi;have hl:y.cs.toList.length=9:=rfl;rw[getSet zs k i y hk,Dw _ _ _ _ (by rw[hl,hs];omega),hl]
   by_cases A:i=k
   ·subst A
    rw[if_pos rfl,if_pos (by omega),show 9*i+j - i*9=j by omega,Array.getElem?_toList]
   ·rw[if_neg A,if_neg (by omega),Qc,pe zs i hi j D]
 unfold Rw;rw[←e];exact E
theorem Ko {cs:Array Value} (hb:au W b t cs) (ck:g≠b) (a0 a1 a2 a3 a4 a5 a6 a7 a8:Value):
 au (((((((((W.setCell ⟨g,k*9,none⟩ a0).setCell ⟨g,k*9+1,none⟩ a1).setCell ⟨g,k*9+2,none⟩ a2).setCell ⟨g,k*9+3,none⟩ a3).setCell ⟨g,k*9+4,none⟩ a4).setCell ⟨g,k*9+5,none⟩ a5).setCell ⟨g,k*9+6,none⟩ a6).setCell ⟨g,k*9+7,none⟩ a7).setCell ⟨g,k*9+8,none⟩ a8) b t cs:=
 (((((((((hb.other ck a0).other ck a1).other ck a2).other ck a3).other ck a4).other ck a5).other ck a6).other ck a7).other ck a8)
theorem Pe (hg:S g) (a0 a1 a2 a3 a4 a5 a6 a7 a8:Value):
 Kept S W (((((((((W.setCell ⟨g,k*9,none⟩ a0).setCell ⟨g,k*9+1,none⟩ a1).setCell ⟨g,k*9+2,none⟩ a2).setCell ⟨g,k*9+3,none⟩ a3).setCell ⟨g,k*9+4,none⟩ a4).setCell ⟨g,k*9+5,none⟩ a5).setCell ⟨g,k*9+6,none⟩ a6).setCell ⟨g,k*9+7,none⟩ a7).setCell ⟨g,k*9+8,none⟩ a8):=
 ((((((((((Kept.refl S W).setCell (a:=⟨g,k*9,none⟩) (.inr hg) a0).setCell (a:=⟨g,k*9+1,none⟩) (.inr hg) a1).setCell (a:=⟨g,k*9+2,none⟩) (.inr hg) a2).setCell (a:=⟨g,k*9+3,none⟩) (.inr hg) a3).setCell (a:=⟨g,k*9+4,none⟩) (.inr hg) a4).setCell (a:=⟨g,k*9+5,none⟩) (.inr hg) a5).setCell (a:=⟨g,k*9+6,none⟩) (.inr hg) a6).setCell (a:=⟨g,k*9+7,none⟩) (.inr hg) a7).setCell (a:=⟨g,k*9+8,none⟩) (.inr hg) a8)
theorem Rw.lead {zs:List NP} (h:Rw W g zs) (hk:k<zs.length) (l:List UInt8):
 Rw (W.setCell ⟨g,k*9+2,none⟩ (.string (str l))) g (zs.set k ⟨{(zs.getD k aT).m with ao:=l},(zs.getD k aT).p,(zs.getD k aT).c⟩):=by
 have hs:=EW zs;have E:au W g 52 (j5 zs).toArray:=h;have:=E.set (k*9+2) (.string (str l)) (by omega);unfold Rw;rw[←zg (ar:=_) (zs:=zs.set k ⟨{(zs.getD k aT).m with ao:=l},(zs.getD k aT).p,(zs.getD k aT).c⟩) ?_ ?_]
 ·exact this
 ·simp only[Array.size_set,List.length_set];exact hs
 ·intro i hi j A
  rw[List.length_set]at hi;rw[getSet zs k i _ hk,Array.getElem?_set]
  by_cases D:i=k
  ·subst D
   rw[if_pos rfl]
   by_cases B:j=2
   ·subst B
    rw[if_pos (by omega)];rfl
   ·rw[if_neg (by omega),Qc,pe zs i hi j A]
    match j,A,B with
    |0,_,_=>rfl
    |1,_,_=>rfl
    |3,_,_=>rfl
    |4,_,_=>rfl
    |5,_,_=>rfl
    |6,_,_=>rfl
    |7,_,_=>rfl
    |8,_,_=>rfl
  ·rw[if_neg D,if_neg (by omega),Qc,pe zs i hi j A]
theorem CR (n:Nat):(madeCells #[.string ⟨#[]⟩,.string ⟨#[]⟩,.string ⟨#[]⟩,.int .u8 0,.int .i64 0,.int .i64 0,.int .i64 0,.int .i64 0,.slice none 0 0] (n*9))=(j5 (List.replicate n aT)).toArray:=by
 apply zg
 ·rw[size_madeCells,List.length_replicate];omega
 ·intro i hi j A
  rw[List.length_replicate]at hi
  have e:(List.replicate n aT).getD i aT=aT:=by
   rw[List.getD,List.getElem?_replicate,if_pos hi];rfl
  rw[e];unfold madeCells;rw[Array.getElem?_map,Array.getElem?_range,if_pos (by omega)];simp only[Option.map_some];rw[show(9*i+j) % (#[Value.string ⟨#[]⟩,.string ⟨#[]⟩,.string ⟨#[]⟩,.int .u8 0,.int .i64 0,.int .i64 0,.int .i64 0,.int .i64 0,.slice none 0 0]:Array Value).size=j by show(9*i+j) % 9=j;omega]
  match j,A with
  |0,_=>rfl
  |1,_=>rfl
  |2,_=>rfl
  |3,_=>rfl
  |4,_=>rfl
  |5,_=>rfl
  |6,_=>rfl
  |7,_=>rfl
  |8,_=>rfl
theorem Pf {B:Nat} (h:w'.ownsRow B 52 9 (.slice (some ⟨g,0,none⟩) n n) n (j5 (List.replicate n aT))):Rw w' g (List.replicate n aT):=by
 rcases h.2 with⟨h1,_⟩|⟨g',cap,cur,h1,_,hg,h2,h3,h4,h5⟩
 ·cases h1
 ·cases h1
  unfold Rw au
  have:cur=(j5 (List.replicate n aT)).toArray:=by
   apply Array.toList_inj.1;rw[←h5,List.take_of_length_le (by simp;omega)]
  rw[←this];exact hg
def Rm (W:World) (g:Nat) (ys:List MP):Prop:=∃cur,au W g 48 cur∧8*ys.length≤cur.size∧∀i,i<ys.length→∀j,j<8→cur[8*i+j]? =(ys.getD i cz).cs[j]?
theorem Rm.p6 {ys:List MP} (h:Rm W g ys) (hk:k<ys.length):yN W g (k*8) (ys.getD k cz):=by
 obtain⟨cur,A,_,hc⟩:=h
 have key:∀j,j<8→W.cell? ⟨g,k*8+j,none⟩=(ys.getD k cz).cs[j]? :=fun j B=>by
  rw[A.cell,Nat.mul_comm,hc k hk j B]
 exact⟨key 0 (by omega),key 1 (by omega),key 2 (by omega),key 3 (by omega),key 4 (by omega),key 5 (by omega),key 6 (by omega),key 7 (by omega)⟩
theorem XU {ys:List MP} (hk:k<ys.length):ys.getD k cz=ys[k]:=by rw[List.getD,Qd hk];rfl
theorem vF (ys:List MP) (k i:Nat) (y:MP) (hk:k<ys.length):(ys.set k y).getD i cz=if i=k then y else ys.getD i cz:=by
 rw[List.getD,List.getD,List.getElem?_set]
 by_cases h:k=i
 ·subst h
  simp[hk]
 ·rw[if_neg h,if_neg (fun e=>h e.symm)]
theorem Rm.aD1 {ys:List MP} (h:Rm W g ys) (hb:∀y∈ys,js W y):jI W (some ⟨g,0,none⟩) ys.length ys:=by
 obtain⟨cur,A,_,hc⟩:=h;exact⟨rfl,hb,fun _=>⟨g,0,rfl,A.lt,fun i hi j B=>by rw[Nat.zero_add,A.cell,hc i hi j B]⟩⟩
def YU (W:World) (g o:Nat) (y:MP):World:=(((((((W.setCell ⟨g,o,none⟩ (.string (str y.m.path))).setCell ⟨g,o+1,none⟩ (.string (str y.m.target))).setCell ⟨g,o+2,none⟩ (.int .u8 (y.m.kind.toNat:Int))).setCell ⟨g,o+3,none⟩ (.int .i64 y.m.mode)).setCell ⟨g,o+4,none⟩ (.int .i64 y.m.uid)).setCell ⟨g,o+5,none⟩ (.int .i64 y.m.gid)).setCell ⟨g,o+6,none⟩ (.int .i64 y.m.time)).setCell ⟨g,o+7,none⟩ (.slice y.p y.m.body.length y.c)
theorem Rm.set {ys:List MP} (h:Rm W g ys) (hk:k<ys.length) (y:MP):Rm (YU W g (k*8) y) g (ys.set k y):=by
 obtain⟨cur,B,hs,hc⟩:=h;have E:=(aW (aW (aW (aW (aW (aW (aW (aW B (k*8) (.string (str y.m.path))) (k*8+1) (.string (str y.m.target))) (k*8+2) (.int .u8 (y.m.kind.toNat:Int))) (k*8+3) (.int .i64 y.m.mode)) (k*8+4) (.int .i64 y.m.uid)) (k*8+5) (.int .i64 y.m.gid)) (k*8+6) (.int .i64 y.m.time)) (k*8+7) (.slice y.p y.m.body.length y.c))
 have e:zB cur (k*8) y.cs.toList=((((((((cur.setIfInBounds (k*8) (.string (str y.m.path))).setIfInBounds (k*8+1) (.string (str y.m.target))).setIfInBounds (k*8+2) (.int .u8 (y.m.kind.toNat:Int))).setIfInBounds (k*8+3) (.int .i64 y.m.mode)).setIfInBounds (k*8+4) (.int .i64 y.m.uid)).setIfInBounds (k*8+5) (.int .i64 y.m.gid)).setIfInBounds (k*8+6) (.int .i64 y.m.time)).setIfInBounds (k*8+7) (.slice y.p y.m.body.length y.c)):=by
  rw[MP.qp];simp only[zB,Nat.add_assoc,Nat.reduceAdd]
 refine⟨zB cur (k*8) y.cs.toList,by unfold YU;rw[e];exact E,by rw[zC,List.length_set];exact hs,fun i hi j D=>?_⟩;rw[List.length_set]at hi;have hl:y.cs.toList.length=8:=rfl;rw[vF ys k i y hk,Dw _ _ _ _ (by rw[hl];omega),hl]
 by_cases A:i=k
 ·subst A
  rw[if_pos rfl,if_pos (by omega),show 8*i+j - i*8=j by omega,Array.getElem?_toList]
 ·rw[if_neg A,if_neg (by omega),hc i hi j D]
theorem RO (hg:S g) (y:MP):Kept S W (YU W g o y):=
 ((((((((Kept.refl S W).setCell (a:=⟨g,o,none⟩) (.inr hg) _).setCell (a:=⟨g,o+1,none⟩) (.inr hg) _).setCell (a:=⟨g,o+2,none⟩) (.inr hg) _).setCell (a:=⟨g,o+3,none⟩) (.inr hg) _).setCell (a:=⟨g,o+4,none⟩) (.inr hg) _).setCell (a:=⟨g,o+5,none⟩) (.inr hg) _).setCell (a:=⟨g,o+6,none⟩) (.inr hg) _).setCell (a:=⟨g,o+7,none⟩) (.inr hg) _
theorem Dr {W':World} {ys:List MP} (h:Rm W g ys) (hb:Below W.heap.size W W'):Rm W' g ys:=by
 obtain⟨cur,h1,A,B⟩:=h;exact⟨cur,h1.below hb h1.lt,A,B⟩
end kY
namespace DY
open iK Bk Mem kY Go.Lib
variable {ss:List (List UInt8)}
def yS (w:World) (p:Option Addr) (n:Nat) (ss:List (List UInt8)):Prop:=
 ss.length=n∧(0<n→∃b o,p=some ⟨b,o,none⟩∧b<w.heap.size∧∀i,i<n→w.cell? ⟨b,o+i,none⟩=some (.string (str (ss.getD i []))))
theorem yS.below (h:yS w p n ss) (hb:Below w.heap.size w w'):yS w' p n ss:=by
 refine⟨h.1,fun B=>?_⟩;obtain⟨b,o,rfl,A,hc⟩:=h.2 B;refine⟨b,o,rfl,Nat.lt_of_lt_of_le A hb.size,fun i hi=>?_⟩;rw[hb.cell (p:=⟨b,o+i,none⟩) A];exact hc i hi
theorem Yo:(Tryz.prog.info? 9).map (fun i=>(i.zero,i.size,i.bytes))=some (some (.string ⟨#[]⟩),1,16):=by kernel_rfl
def Rs (W:World) (g:Nat) (ss:List (List UInt8)):Prop:=∃cur,au W g 9 cur∧ss.length≤cur.size∧∀i,i<ss.length→cur[i]? =some (.string (str (ss.getD i [])))
theorem Rs.at (h:Rs W g ss) (hk:k<ss.length):W.cell? ⟨g,k,none⟩=some (.string (str (ss.getD k [])))∧W.frozen? ⟨g,k,none⟩=false:=by
 obtain⟨cur,A,_,hc⟩:=h;exact⟨by rw[A.cell];exact hc k hk,A.frozen k⟩
theorem Om (ss:List (List UInt8)) (k i:Nat) (y:List UInt8) (hk:k<ss.length):(ss.set k y).getD i []=if i=k then y else ss.getD i []:=by
 rw[List.getD,List.getD,List.getElem?_set]
 by_cases h:k=i
 ·subst h
  simp[hk]
 ·rw[if_neg h,if_neg (fun e=>h e.symm)]
theorem Rs.set (h:Rs W g ss) (hk:k<ss.length) (y:List UInt8):Rs (W.setCell ⟨g,k,none⟩ (.string (str y))) g (ss.set k y):=by
 obtain⟨cur,B,hs,hc⟩:=h;refine⟨cur.setIfInBounds k (.string (str y)),aW B k _,by rw[List.length_set];simpa using hs,fun i hi=>?_⟩;rw[List.length_set]at hi;rw[Om ss k i y hk,Array.getElem?_setIfInBounds]
 by_cases A:k=i
 ·subst A
  rw[if_pos rfl,if_pos (by omega),if_pos rfl]
 ·rw[if_neg A,if_neg (fun e=>A e.symm),hc i hi]
theorem Rs.strs (h:Rs W g ss):yS W (some ⟨g,0,none⟩) ss.length ss:=by
 obtain⟨cur,A,_,hc⟩:=h;exact⟨rfl,fun _=>⟨g,0,rfl,A.lt,fun i hi=>by rw[Nat.zero_add,A.cell,hc i hi]⟩⟩
theorem V3 {W':World} (h:Rs W g ss) (hb:Below W.heap.size W W'):Rs W' g ss:=by
 obtain⟨cur,h1,A,B⟩:=h;exact⟨cur,h1.below hb h1.lt,A,B⟩
end DY
namespace Mem
open Go.Deep iK Bk Hp Head Rec Go.Lib
theorem p6:Tryz.prog.cellsOf 48=8:=by kernel_rfl
instance:Inhabited MP:=⟨cz⟩
section
variable {H:Type} {enc:TypeId × Value→H} {w:World} {base:Nat} {held:Bool}
end
end Mem
namespace kY
open Go.Deep iK Bk Hp Head Rec Mem Go.Lib
instance:Inhabited NP:=⟨aT⟩
section
variable {H:Type} {enc:TypeId × Value→H} {w:World} {base:Nat} {held:Bool}
end
end kY
namespace Wr
open iK Bk Hp Head Rec Attr Mem Go.Lib
structure SP (w:World) (M H:Array Value) (rs:bW) (wx:World):Prop where
 bel:Below w.heap.size w wx
 mem:au wx w.heap.size 48 M
 res:au wx (w.heap.size+1) 66 (aa bg)
 hd:au wx (w.heap.size+2) 66 H
 ls:∃v,au wx (w.heap.size+3) 64 #[v]∧wx.ownsRow (w.heap.size+5) 121 2 v rs.length (iQ rs)
 fn:au wx (w.heap.size+4) 189 #[.func (.func 120) #[] #[.pointer (some ⟨w.heap.size+3,0,none⟩)]]
section
variable {w wx wy:World} {M H:Array Value} {rs:bW}
theorem SP.below (h:SP w M H rs wx) (hb:Below wx.heap.size wx wy):SP w M H rs wy where
 bel:=h.bel.trans (hb.mono h.bel.size)
 mem:=h.mem.below hb h.mem.lt
 res:=h.res.below hb h.res.lt
 hd:=h.hd.below hb h.hd.lt
 ls:=by
  obtain⟨v,h1,A⟩:=h.ls;exact⟨v,h1.below hb h1.lt,iD A hb⟩
 fn:=h.fn.below hb h.fn.lt
theorem SP.kept (h:SP w M H rs wx) (hk:Kept ag wx wy):SP w M H rs wy:=h.below (hk.below (Qk _) (fun _ h=>h.elim))
theorem SP.set (h:SP w M H rs wx) (i:Nat) (v:Value) (hi:i<H.size):SP w M (H.set i v hi) rs (wx.setCell ⟨w.heap.size+2,i,none⟩ v) where
 bel:=h.bel.setCell (p:=⟨w.heap.size+2,i,none⟩) (by show w.heap.size≤w.heap.size+2;omega) v
 mem:=h.mem.other (by omega) v
 res:=h.res.other (by omega) v
 hd:=h.hd.set i v hi
 ls:=by
  obtain⟨u,h1,A⟩:=h.ls;refine⟨u,h1.other (by omega) v,cg A ((Kept.refl (aA (w.heap.size+2)) wx).setCell (a:=⟨w.heap.size+2,i,none⟩) (.inr rfl) v) (fun k hk e=>?_)⟩;have:=(A.lt k hk).1;have:k=w.heap.size+2:=e;omega
 fn:=h.fn.other (by omega) v
theorem SP.grow (h:SP w M H rs wx) {v':Value} {rs':bW} {o:Obj} (hl:au wx (w.heap.size+3) 64 #[v]) (hr:wx.ownsRow (w.heap.size+5) 121 2 v rs.length (iQ rs))
 (hg:(wx.alloc o).grownBy wy v.ownBlock) (ho:wy.ownsRow (w.heap.size+5) 121 2 v' rs'.length (iQ rs')):
 (au wy (w.heap.size+3) 64 #[v])∧SP w M H rs' (wy.setCell ⟨w.heap.size+3,0,none⟩ v'):=by
 have A:Kept (fun k=>v.ownBlock=some k) wx wy:=((Kept.refl _ wx).alloc o).grown hg (fun k hk=>.inr hk);have off:∀k,v.ownBlock=some k→w.heap.size+5≤k:=fun k hk=>(hr.lt k hk).1
 have B:∀k,v'.ownBlock=some k→w.heap.size+5≤k:=fun k hk=>(ho.lt k hk).1
 have D:=hl.iH A (fun e=>by have:=off _ e;omega);refine⟨D,?_⟩;exact
 {bel:=(h.bel.trans (A.below h.bel.size (fun k hk=>by have:=off k hk;omega))).setCell (p:=⟨w.heap.size+3,0,none⟩) (by show w.heap.size≤w.heap.size+3;omega) v'
  mem:=(h.mem.iH A (fun e=>by have:=off _ e;omega)).other (by omega) v'
  res:=(h.res.iH A (fun e=>by have:=off _ e;omega)).other (by omega) v'
  hd:=(h.hd.iH A (fun e=>by have:=off _ e;omega)).other (by omega) v'
  ls:=⟨v',D.set 0 v' (by show 0<1;omega),cg ho ((Kept.refl (aA (w.heap.size+3)) wy).setCell (a:=⟨w.heap.size+3,0,none⟩) (.inr rfl) v') (fun k hk e=>by
   have:=B k hk;have:k=w.heap.size+3:=e
   omega)⟩
  fn:=(h.fn.iH A (fun e=>by have:=off _ e;omega)).other (by omega) v'}
end
theorem RW (w:World) (a b:List UInt8):bG (w.alloc (.cells #[.string (str a),.string (str b)] 121)) (some ⟨w.heap.size,0,none⟩) 1 [(a,b)]:=by
 have A:=au.new w 121 #[.string (str a),.string (str b)];refine⟨rfl,fun _=>⟨w.heap.size,0,rfl,A.lt,fun i hi=>?_⟩⟩;obtain rfl:i=0:=by omega
 exact⟨A.cell 0,A.cell 1⟩
theorem Bl (w wx:World) (M H:Array Value) (rs:bW) (k v:List UInt8) (h:SP w M H rs wx) (hn:rs.length≤100):
 Calls Tryz.prog 120 #[.string (str k),.string (str v),.pointer (some ⟨w.heap.size+3,0,none⟩)] wx fun e w'=>e=.returned (.tuple #[])∧SP w M H (rs++[(k,v)]) w':=by
 obtain⟨i0,hi,X,V,W⟩:=info_parts BB;obtain⟨r,hl,E⟩:=h.ls;have A:=E;obtain⟨p,c,rfl,_,_,_⟩:=ru A;have J:=iD E ((Below.refl _ wx).alloc (Qk _) (.cells #[.string (str k),.string (str v)] 121));have o:=h.fn.lt;have c0:=hl.cell 0;simp only[Qc,Qa]at c0;have b:=Qh hi;have l:=Qh X;have g:=Qh V;have f:=Qh W;have d:=Qh h;have L:=Qh hl;have N:=Qh E;have O:=Qh J;obtain⟨n,G⟩:∃n,rs.length=n:=⟨_,rfl⟩
 have B:=Qh G;rw[G]at hn L N O c0;clear hi X V W h hl E J A G
 go_enter Tryz.func120,Tryz.ntmps120
 go_wp2_with (at_builtin;refine II rfl _ _ 64 rfl (w.heap.size+5) 121 i0 (.agg #[.string ⟨#[]⟩,.string ⟨#[]⟩]) Tryz.underlying64 b.out l.out g.out f.out rfl _ n rs rfl O.out (some ⟨wx.heap.size,0,none⟩) 1 1 [(k,v)] rfl (RW wx k v) (by omega) (by simp;omega) ?_)
 intro v' w' I U;have D:=d.out.grow (rs':=rs++[(k,v)]) (by rw[B.out]at*;exact L.out) (by rw[B.out]at*;exact N.out) U (by rw[Qf,B.out];exact I);have f0:=D.1.frozen 0;have g0:=D.1.cell 0;simp only[Qc,Qa]at g0;have Z:=Qh D.2;obtain⟨q,m,R,_⟩:=ru (rs:=rs++[(k,v)]) (by rw[Qf,B.out];exact I);obtain⟨Y,T⟩:∃Y,Y=(rs++[(k,v)]).length:=⟨_,rfl⟩
 rw[←T]at R;subst R;clear D I U T;go_wp2
 go_end0
 exact⟨rfl,Z.out⟩
def NN (w:World) (M H H':Array Value) (rs rs':bW) (e:Ending) (w':World):Prop:=e=.returned (.tuple #[])∧SP w M H' rs' w'
theorem zW (w wx:World) (M H H':Array Value) (rs rs':bW) (i:Nat) (key t:List UInt8) (fits c:Bool) (h:SP w M H rs wx) (hi:i<H.size) (hH:H[i]? =some (.string (str t)))
 (hc:(!fits||!sx t)=c) (hH':(if c=true then H.setIfInBounds i (.string (str bN))else H)=H') (oJ:(if c=true then rs++[(key,t)]else rs)=rs') (ht:t.length≤100000) (hn:rs.length≤100):
 Calls Tryz.prog 121 #[.string (str key),.pointer (some ⟨w.heap.size+2,i,none⟩),.bool fits,.pointer (some ⟨w.heap.size+4,0,none⟩)] wx (NN w M H H' rs rs'):=by
 have D:=h.hd.cell i;rw[hH]at D;have L:=Qh h;have HC:=Qh hc;have I:=Qh hH;have A:=Qh hH';have O:=Qh oJ;have J:=Qh hi;clear h hc hH hH' oJ hi
 go_enter Tryz.func121,Tryz.ntmps121
 go_upto_region 0 with fail
 go_cut [15] (fun s U=>s=.bool c∧SP w M H rs U)
 case first=>
  cases fits with
  |false=>
   go_wp2;go_meet
   exact⟨by rw[←HC.out];rfl,L.out⟩
  |true=>
   have G:=RM (str t) wx (by rw[ax];omega);rw[aS]at G;have T:=Qh G;clear G;go_wp2_with fail;refine T.out.mono ?_;rintro e V ⟨rfl,N⟩;have H1:=Qh (L.out.below N);clear N;go_wp2;go_meet;exact⟨by rw[←HC.out];rfl,H1.out⟩
 case rest=>
  obtain⟨rfl,hs⟩:=hcut;have E:=Qh hs;clear hs D
  cases c with
  |false=>
   go_wp2
   go_end0
   refine⟨rfl,?_⟩;rw[←A.out,←O.out,if_neg (by simp),if_neg (by simp)];exact E.out
  |true=>
   have D:=E.out.hd.cell i;rw[I.out]at D;have hF:=E.out.fn.cell 0;simp only[Qc,Qa]at hF;go_upto_region 1 with fail
   go_still_tail 5,(by kernel_rfl)
   go_wp2_with fail
   refine(Bl w _ M H rs key t (E.out.kept ((Kept.refl ag wc).drew)) hn).mono ?_;rintro e W ⟨rfl,B⟩;have R:=Qh B;have f2:=B.hd.frozen i;have c2:=B.hd.cell i;rw[I.out]at c2;clear B;go_wp2
   go_end0
   refine⟨rfl,?_⟩;rw[←A.out,←O.out,if_pos trivial,if_pos trivial,Array.setIfInBounds,dif_pos J.out];exact R.out.set i _ J.out
theorem rX (w wx:World) (M H H':Array Value) (rs rs':bW) (i:Nat) (key:List UInt8) (n most:Nat) (h:SP w M H rs wx) (hi:i<H.size) (hH:H[i]? =some (.int .i64 (n:Int)))
 (hH':(if most<n then H.setIfInBounds i (.int .i64 0)else H)=H') (oJ:(if most<n then rs++[(key,aM n)]else rs)=rs') (ht:n≤9223372036854775807) (hn:rs.length≤100) (hN:Need wx):
 Calls Tryz.prog 123 #[.string (str key),.pointer (some ⟨w.heap.size+2,i,none⟩),.int .i64 (most:Int),.pointer (some ⟨w.heap.size+4,0,none⟩)] wx (NN w M H H' rs rs'):=by
 have U:=h.hd.cell i;rw[hH]at U;have hF:=h.fn.cell 0;simp only[Qc,Qa]at hF;have O:=Qh h;have L:=Qh hH;have A:=Qh hH';have G:=Qh oJ;have N:=Qh hi;have W:=Qh hN;clear h hH hH' oJ hi hN
 by_cases V:most<n
 ·have J:(most:Int)<(n:Int):=by omega
  rw[if_pos V]at A G
  go_enter Tryz.func123,Tryz.ntmps123
  go_upto_region 1 with fail
  go_region_held_law (fun w'=>w'.cell? ⟨w.heap.size+4,0,none⟩=some (.func (.func 120) #[] #[.pointer (some ⟨w.heap.size+3,0,none⟩)])∧w'.cell? ⟨w.heap.size+2,i,none⟩=some (.int .i64 (n:Int))) (first|exact⟨hF,U⟩|exact D|exact B)
   (first
    |(go_at_call 124;refine(Ju n _ ht (W.out.below (((Kept.refl ag wx).drew).below (Qk _) (fun _ h=>h.elim)))).mono ?_;rintro e X ⟨rfl,R⟩;have I:=Qh ((O.out.kept ((Kept.refl ag wx).drew)).below R);(have B:=And.intro (I.out.fn.cell 0) (I.out.hd.cell i));rw[L.out]at B;simp only[Qc,Qa]at B;clear R)
    |(go_at_call 120;refine(Bl w _ M H rs key (aM n) I.out hn).mono ?_;rintro e w3 ⟨rfl,T⟩;have E:=Qh T;(have D:=And.intro (E.out.fn.cell 0) (E.out.hd.cell i));rw[L.out]at D;simp only[Qc,Qa]at D;clear T))
  all_goals
   obtain⟨_,c3⟩:=D;have f3:=E.out.hd.frozen i;go_wp2
   go_end0
   refine⟨rfl,?_⟩;rw[←A.out,←G.out,Array.setIfInBounds,dif_pos N.out];exact E.out.set i _ N.out
 ·have J:¬(most:Int)<(n:Int):=by omega
  rw[if_neg V]at A G
  go_enter Tryz.func123,Tryz.ntmps123
  go_wp2
  go_end0
  exact⟨rfl,by rw[←A.out,←G.out];exact O.out⟩
end Wr
namespace Attr
open Go.Shelf iK Rec ur Bk Hp Go.Lib
def xS (c:UInt8) (l:List UInt8):List UInt8 × List UInt8 × Bool:=
 if 0≤Lib.indexByte l c then(l.take (Lib.indexByte l c).toNat,l.drop ((Lib.indexByte l c).toNat+1),true)else(l,[],false)
theorem TX (c:UInt8) (l:List UInt8):(xS c l).1.length≤l.length∧(xS c l).2.1.length≤l.length:=by
 unfold xS;split
 ·simp only[Qg,Qe];omega
 ·simp
theorem Ns (c:UInt8) (l:List UInt8) (w:World) (hm:l.length≤140737488351232):
 Calls Tryz.prog 181 #[.string (str l),.string ⟨#[c]⟩] w fun e w'=>e=.returned (.tuple #[.string (str (xS c l).1),.string (str (xS c l).2.1),.bool (xS c l).2.2])∧∃n,w'=w.drewN n:=by
 have A:=Any.stringslite_Index_one Tryz.zp (str l) c w;rw[aS]at A;have hs:(str l).size=l.length:=ax l;have G:(⟨#[c]⟩:ByteArray).size=1:=rfl;unfold xS
 by_cases h:0≤Lib.indexByte l c
 ·obtain⟨k,hk⟩:∃k:Nat,Lib.indexByte l c=k:=⟨(Lib.indexByte l c).toNat,by omega⟩
  have H:=(List.getElem?_eq_some_iff.1 (Lib.indexByte_some hk).1).1;rw[if_pos h,hk,Int.toNat_natCast];rw[hk]at A;clear h hk;simp only;have B:(str l).extract 0 k=str (l.take k):=yH l k;have D:(str l).extract (k+1) (str l).size=str (l.drop (k+1)):=DG l (k+1) _ hs;rw[←B,←D];have c1:(0:Int)≤(k:Int):=by omega
  have c2:(k:Int)≤((str l).size:Int):=by omega
  have c3:(0:Int)≤(k:Int)+1:=by omega
  have I:(k:Int)+1≤((str l).size:Int):=by omega
  have c5:((str l).size:Int)≤140737488351232:=by omega
  clear B D;have mixed:Tryz.prog.follows .mixedOrders=true:=by kernel_rfl
  go_enter Tryz.func181,Tryz.ntmps181
  go_wp2_with (go_at_call 208;refine A.mono ?_;rintro e w' ⟨rfl,rfl⟩)
  go_region_o
  go_wp2
  go_ret3
  exact⟨rfl,1,rfl⟩
 ·rw[if_neg h]
  have E:Lib.indexByte l c=-1:=by have:=Lib.indexByte_ge l c;omega
  rw[E]at A;clear h E
  go_enter Tryz.func181,Tryz.ntmps181
  go_wp2_with (go_at_call 208;refine A.mono ?_;rintro e w' ⟨rfl,rfl⟩)
  go_ret3
  exact⟨rfl,0,rfl⟩
theorem Qn (c:UInt8) (l:List UInt8) (w:World) (hm:l.length≤140737488351232):
 Calls Tryz.prog 141 #[.string (str l),.string ⟨#[c]⟩] w fun e w'=>e=.returned (.tuple #[.string (str (xS c l).1),.string (str (xS c l).2.1),.bool (xS c l).2.2])∧∃n,w'=w.drewN n:=by
 have hc:=Ns c l w hm
 go_enter Tryz.func141,Tryz.ntmps141
 go_wp2_with (go_at_call 181;refine hc.mono ?_;rintro e w' ⟨rfl,n,rfl⟩)
 go_ret3
 exact⟨rfl,n,rfl⟩
theorem qR (l:List UInt8) (w:World) (hm:l.length≤140737488351232):
 Calls Tryz.prog 183 #[.string (str l)] w fun e w'=>e=.returned (.bool (l.all aN))∧Below w.heap.size w w':=by
 have A:=Any.strings_Trim_laid Tryz.U8 (by kernel_rfl) (str l) ⟨#[48,49,50,51,52,53,54,55,56,57]⟩ w (by rw[ax];omega) (by decide) (ascii_of_all (by decide));rw[aS]at A
 have E:l.all aN=decide (trimS l [48,49,50,51,52,53,54,55,56,57]=[]):=by
  rw[Bool.eq_iff_iff];simp only[decide_eq_true_eq,List.all_eq_true];exact(Wk l).symm
 obtain⟨z,B⟩:∃z,trimS l [48,49,50,51,52,53,54,55,56,57]=z:=⟨_,rfl⟩
 have A:Calls Tryz.prog 210 #[.string (str l),.string ⟨#[48,49,50,51,52,53,54,55,56,57]⟩] w fun e w'=>e=.returned (.string (str z))∧Below w.heap.size w w':=by
  rw[←B];exact A
 rw[E,B,←bh];clear E B
 go_enter Tryz.func183,Tryz.ntmps183
 go_wp2_with fail
 refine A.mono ?_;rintro e H ⟨rfl,D⟩;have G:=Qh D;clear D A;go_wp2;go_ret;exact⟨rfl,G.out⟩
theorem pn (l:List UInt8) (w:World) (hm:l.length≤140737488351232):
 Calls Tryz.prog 146 #[.string (str l)] w fun e w'=>e=.returned (lq (bA l))∧Below w.heap.size w w':=by
 have A:=tA (l.length:Int) 1 18 w;have hs:(str l).size=l.length:=ax l;have D:((str l).size:Int)=(l.length:Int):=by rw[hs]
 by_cases h:1≤l.length∧l.length≤18
 ·rw[oL (by omega) (by omega)]at A
  have hd:=qR l w hm
  cases ha:l.all aN with
  |false=>
   rw[ha]at hd;rw[show bA l=none by unfold bA;rw[if_neg (by omega),ha];rfl];clear ha h hm hs;rw[←D]at A;clear D;have I:=Qh hd;clear hd
   go_enter Tryz.func146,Tryz.ntmps146
   go_wp2_with fail
   refine A.mono ?_;rintro e B ⟨rfl,rfl⟩;clear A;go_wp2_with fail;refine I.out.mono ?_;rintro e B ⟨rfl,E⟩;have H:=Qh E;clear E;go_wp2;go_ret2;exact⟨rfl,H.out⟩
  |true=>
   rw[ha]at hd;rw[show bA l=some (ki l) by unfold bA;rw[if_neg (by omega),ha];rfl];have G:=fun w=>Any.strconv_Atoi Tryz.U4 (str l) (ki l) (by rw[hs];omega) (by rw[aS];exact TR l (by rintro rfl;simp at h) (by simpa using ha)) w
   have mixed:Tryz.prog.follows .mixedOrders=true:=by kernel_rfl
   clear ha h hm hs;rw[←D]at A;clear D;have I:=Qh hd;have L:=Qh G;clear hd G;obtain⟨n,J⟩:∃n:Int,(ki l:Int)=n:=⟨_,rfl⟩
   rw[show lq (some (ki l))=.tuple #[.int .i64 n,.bool true] by rw[←J];rfl];rw[J]at L;clear J
   go_enter Tryz.func146,Tryz.ntmps146
   go_wp2_with fail
   refine A.mono ?_;rintro e B ⟨rfl,rfl⟩;clear A;go_wp2_with fail;refine I.out.mono ?_;rintro e B ⟨rfl,E⟩;have H:=Qh E;clear E;go_wp2_with fail;refine(L.out B).mono ?_;rintro e w2 ⟨rfl,t,M⟩;have N:Below B.heap.size B w2:=by rw[M];exact FV _ _ _
   have O:=Qh (H.out.trans (N.mono H.out.size));clear M N;go_wp2
   go_quiet_o (fail)
   go_wp2;go_ret2;exact⟨rfl,below_drewN O.out _⟩
 ·rw[qE (by omega)]at A
  rw[show bA l=none by unfold bA;rw[if_pos (by omega)]];clear h hm hs;rw[←D]at A;clear D
  go_enter Tryz.func146,Tryz.ntmps146
  go_wp2_with fail
  refine A.mono ?_;rintro e B ⟨rfl,rfl⟩;go_wp2;go_ret2;exact⟨rfl,Below.refl _ _⟩
def JQ (o:Option Nat):Int:=match o with
 |some n=>n
 |none=>0
theorem sQ (o:Option Nat):lq o=.tuple #[.int .i64 (JQ o),.bool o.isSome]:=by cases o<;>rfl
theorem V5 (l:List UInt8):rH l=if(xS 46 l).2.1.all aN then bA (xS 46 l).1 else none:=by
 unfold rH xS
 by_cases h:0≤Lib.indexByte l 46
 ·rw[if_pos h,if_pos h]
 ·rw[if_neg h,if_neg h]
  rfl
theorem Kr (l:List UInt8) (w:World) (hm:l.length≤140737488351232):
 Calls Tryz.prog 147 #[.string (str l)] w fun e w'=>e=.returned (lq (rH l))∧Below w.heap.size w w':=by
 have hc:=Qn 46 l w hm;obtain⟨h1,J⟩:=TX 46 l;rw[V5];generalize xS 46 l=C at hc h1 J⊢;obtain⟨a,r,b⟩:=C;simp only at hc h1 J⊢;have hd:=fun w=>qR r w (by omega)
 have L:=fun w=>pn a w (by omega)
 clear h1 J hm;have E:=Qh hd;have G:=Qh L;clear hd L
 cases H:r.all aN with
 |false=>
  rw[H]at E;clear H
  go_enter Tryz.func147,Tryz.ntmps147
  go_wp2_with fail
  refine hc.mono ?_;rintro e O ⟨rfl,n,rfl⟩;go_wp2_with fail;refine(E.out _).mono ?_;rintro e I ⟨rfl,A⟩;have D:Hid (Below w.heap.size w I):=Qh ((below_drewN (Below.refl _ _) n).trans A);clear A;go_wp2;go_ret2;exact⟨rfl,D.out⟩
 |true=>
  rw[H]at E;clear H;rw[if_pos rfl,sQ];simp only[sQ]at G;generalize JQ (bA a)=N at G⊢;generalize (bA a).isSome=B at G⊢
  go_enter Tryz.func147,Tryz.ntmps147
  go_wp2_with fail
  refine hc.mono ?_;rintro e O ⟨rfl,n,rfl⟩;go_wp2_with fail;refine(E.out _).mono ?_;rintro e I ⟨rfl,A⟩;have D:Hid (Below w.heap.size w I):=Qh ((below_drewN (Below.refl _ _) n).trans A);clear A;go_wp2_with fail;refine(G.out I).mono ?_;rintro e w3 ⟨rfl,A⟩;have M:Hid (Below w.heap.size w w3):=Qh (D.out.trans (A.mono D.out.size));clear A;go_wp2;go_ret2;exact⟨rfl,M.out⟩
theorem Sr (v:List UInt8) (hv:v≠[]) (b i:Nat) (t:TypeId) (cs:Array Value) (old:Value) (w:World) (h:au w b t cs) (hi:i<cs.size) (ho:cs[i]? =some old):
 Calls Tryz.prog 143 #[.pointer (some ⟨b,i,none⟩),.string (str v)] w fun e w'=>e=.returned (.tuple #[])∧w'=w.setCell ⟨b,i,none⟩ (.string (str v)):=by
 have c0:=h.cell i;rw[ho]at c0;have f0:=h.frozen i;have b1:(str v).toList.isEmpty=false:=by rw[bh];simpa using hv
 clear h hi ho hv
 go_enter Tryz.func143,Tryz.ntmps143
 go_wp2
 go_end0
 exact⟨rfl,rfl⟩
theorem Wf (a:Option Addr) (w:World):
 Calls Tryz.prog 143 #[.pointer a,.string ⟨#[]⟩] w fun e w'=>e=.returned (.tuple #[])∧w=w':=by
 go_enter Tryz.func143,Tryz.ntmps143
 go_wp2
 go_end0
 exact⟨rfl,rfl⟩
theorem iF (v:List UInt8) (b i:Nat) (t:TypeId) (cs:Array Value) (old:List UInt8) (w:World) (h:au w b t cs) (hi:i<cs.size) (ho:cs[i]? =some (.string (str old))):
 Calls Tryz.prog 143 #[.pointer (some ⟨b,i,none⟩),.string (str v)] w fun e w'=>e=.returned (.tuple #[])∧au w' b t (cs.set i (.string (str (aE v old))) hi)∧Kept (aA b) w w':=by
 by_cases A:v=[]
 ·subst A
  refine(Wf _ w).mono ?_;rintro e w' ⟨rfl,rfl⟩;refine⟨rfl,?_,Kept.refl _ _⟩
  have e:cs.set i (.string (str (aE [] old))) hi=cs:=by
   apply Array.ext (by simp);intro j h1 D;rw[Array.getElem_set];split
   ·rename_i B
    subst B;rw[Array.getElem?_eq_getElem hi]at ho;exact(Option.some.inj ho).symm
   ·rfl
  rw[e];exact h
 ·refine(Sr v A b i t cs _ w h hi ho).mono ?_
  rintro e w' ⟨rfl,rfl⟩;refine⟨rfl,?_,(Kept.refl (aA b) _).setCell (a:=⟨b,i,none⟩) (.inr rfl) _⟩;rw[show aE v old=v from if_neg A];exact h.set i _ hi
def Ka (time:Bool):Value:=.func (.func (if time then 147 else 146)) #[] #[]
theorem RA (time:Bool) (a:Option Addr) (w:World):
 Calls Tryz.prog 145 #[.pointer a,.string ⟨#[]⟩,Ka time] w fun e w'=>e=.returned (.bool true)∧w=w':=by
 go_enter Tryz.func145,Tryz.ntmps145
 go_wp2;go_ret;exact⟨rfl,rfl⟩
def sM (time:Bool) (l:List UInt8):Option Nat:=if time then rH l else bA l
theorem Vy (time:Bool) (v:List UInt8) (hv:v≠[]) (hm:v.length≤140737488351232) (b i:Nat) (t:TypeId) (cs:Array Value) (old:Value) (w:World) (hb:au w b t cs) (hi:i<cs.size) (ho:cs[i]? =some old) (hold:∃k,old=.int .i64 k):
 Calls Tryz.prog 145 #[.pointer (some ⟨b,i,none⟩),.string (str v),Ka time] w fun e w'=>e=.returned (.bool (sM time v).isSome)∧au w' b t (cs.set i (.int .i64 (JQ (sM time v))) hi)∧Kept (aA b) w w':=by
 obtain⟨k,rfl⟩:=hold;have b1:(str v).toList.isEmpty=false:=by rw[bh];simpa using hv
 have hs:=fun w=>Kr v w hm
 have E:=fun w=>pn v w hm
 have G:=Qh hb;have I:=Qh ho;clear hb ho hv hm
 cases time with
 |false=>
  rw[show Ka false=.func (.func 146) #[] #[]from rfl,show sM false v=bA v from rfl];simp only[sQ]at E;generalize JQ (bA v)=N at E⊢;generalize (bA v).isSome=B at E⊢;have H:=Qh E;clear E hs
  go_enter Tryz.func145,Tryz.ntmps145
  go_wp2_with fail
  refine(H.out w).mono ?_;rintro e J ⟨rfl,D⟩;have A:=G.out.below D G.out.lt;have c0:=A.cell i;rw[I.out]at c0;have f0:=A.frozen i;have H1:=Qh (And.intro A D);clear A D;go_wp2;go_ret;exact⟨rfl,H1.out.1.set i _ hi,(Kept.bj H1.out.2 (aA b)).setCell (a:=⟨b,i,none⟩) (.inr rfl) _⟩
 |true=>
  rw[show Ka true=.func (.func 147) #[] #[]from rfl,show sM true v=rH v from rfl];simp only[sQ]at hs;generalize JQ (rH v)=N at hs⊢;generalize (rH v).isSome=B at hs⊢;have H:=Qh hs;clear E hs
  go_enter Tryz.func145,Tryz.ntmps145
  go_wp2_with fail
  refine(H.out w).mono ?_;rintro e J ⟨rfl,D⟩;have A:=G.out.below D G.out.lt;have c0:=A.cell i;rw[I.out]at c0;have f0:=A.frozen i;have H1:=Qh (And.intro A D);clear A D;go_wp2;go_ret;exact⟨rfl,H1.out.1.set i _ hi,(Kept.bj H1.out.2 (aA b)).setCell (a:=⟨b,i,none⟩) (.inr rfl) _⟩
theorem aX (time:Bool) (v:List UInt8) (hm:v.length≤140737488351232) (b i:Nat) (t:TypeId) (cs:Array Value) (old:Int) (w:World) (hb:au w b t cs) (hi:i<cs.size) (ho:cs[i]? =some (.int .i64 old)):
 Calls Tryz.prog 145 #[.pointer (some ⟨b,i,none⟩),.string (str v),Ka time] w fun e w'=>e=.returned (.bool (jf time v old).isSome)∧au w' b t (cs.set i (.int .i64 ((jf time v old).getD 0)) hi)∧Kept (aA b) w w':=by
 by_cases A:v=[]
 ·subst A
  refine(RA time _ w).mono ?_;rintro e w' ⟨rfl,rfl⟩;refine⟨rfl,?_,Kept.refl _ _⟩
  have e:cs.set i (.int .i64 ((jf time [] old).getD 0)) hi=cs:=by
   apply Array.ext (by simp);intro j h1 D;rw[Array.getElem_set];split
   ·rename_i E
    subst E;rw[Array.getElem?_eq_getElem hi]at ho;exact(Option.some.inj ho).symm
   ·rfl
  rw[e];exact hb
 ·refine(Vy time v A hm b i t cs _ w hb hi ho ⟨_,rfl⟩).mono ?_
  rintro e w' ⟨rfl,h1,D⟩;have B:jf time v old=Option.map Int.ofNat (sM time v):=if_neg A;have G:(jf time v old).getD 0=JQ (sM time v):=by rw[B];cases sM time v<;>rfl
  rw[G,B,Option.isSome_map];exact⟨rfl,h1,D⟩
end Attr
namespace Attr
open iK Rec Bk Go.Lib
variable {l:List UInt8} {c:UInt8}
def Dq (o:Option (List UInt8)):Value:=match o with
 |some v=>.tuple #[.string (str v),.bool true]
 |none=>.tuple #[.string ⟨#[]⟩,.bool false]
theorem FN (p:Option Addr) (n c:Nat) (rs:bW) (k:List UInt8) (w:World) (hn:n≤4611686018427387904) (h:bG w p n rs):
 Calls Tryz.prog 96 #[.slice p n c,.string (str k)] w fun e w'=>e=.returned (Dq (aD rs k))∧w=w':=by
 have E:=Qh h.1;have N:=Qh h;clear h
 go_enter Tryz.func96,Tryz.ntmps96
 go_wp2_with fail
 go_loop [6] (fun i=>∃(m:Nat),m≤n∧i=.int .i64 ((m:Int) - 1)∧Hid (∀j,m≤j→j<n→(rs.getD j ([],[])).1≠k)) (fun i=>(RowKit.intOf i+1).toNat)
 case atStart=>exact⟨n,Qk _,rfl,Qh (fun j h1 B=>absurd h1 (by omega))⟩
 case round=>
  obtain⟨m,hm,rfl,G⟩:=hrel
  cases m with
  |zero=>
   have D:Hid (aD rs k=none):=Qh (U2 fun j L=>G.out j (Nat.zero_le _) (by rw[E.out]at L;exact L));go_wp2;go_ret2;exact⟨by rw[D.out];rfl,rfl⟩
  |succ j=>
   rw[show(((j+1:Nat):Int) - 1)=(j:Int) by omega];obtain⟨b,o,rfl,R,hc⟩:=N.out.2 (by omega);obtain⟨x0,J⟩:=hc j (by omega);rw[Nat.mul_comm]at x0 J;obtain⟨⟨I,T⟩,H⟩:∃u,rs.getD j ([],[])=u:=⟨_,rfl⟩
   rw[H]at x0 J;simp only at x0 J;have A:=Qh H;clear H hc R
   by_cases hk:I=k
   ·have O:((str I).toList==(str k).toList)=true:=by rw[ak,ak];simpa using hk
    have D:Hid (aD rs k=some T):=Qh (by
     rw[U0 j (by rw[E.out];omega) (by rw[A.out];exact hk) (fun t h1 B=>G.out t (by omega) (by rw[E.out]at B;exact B)),A.out])
    clear hk;go_wp2;go_ret2;exact⟨by rw[D.out];rfl,rfl⟩
   ·have O:((str I).toList==(str k).toList)=false:=by rw[ak,ak];simpa using hk
    have M:Hid (∀t,j≤t→t<n→(rs.getD t ([],[])).1≠k):=Qh (fun t h1 B=>by
     rcases Nat.lt_or_eq_of_le h1 with h1|rfl
     ·exact G.out t h1 B
     ·rw[A.out];exact hk)
    clear hk;go_wp2
    go_round
    case rel=>exact⟨j,by omega,rfl,M⟩
    case measure=>simp[RowKit.intOf]
theorem Np (q:Option Addr) (m d:Nat) (gs:bW) (p:Option Addr) (n c:Nat) (rs:bW) (k:List UInt8) (w:World) (hm:m≤4611686018427387904) (hn:n≤4611686018427387904) (h1:bG w q m gs) (h2:bG w p n rs):
 Calls Tryz.prog 68 #[.slice q m d,.slice p n c,.string (str k)] w fun e w'=>e=.returned (.string (str (jw (aD gs) rs k)))∧w=w':=by
 have c1:=FN p n c rs k w hn h2;have c2:=FN q m d gs k w hm h1;unfold jw;clear h1 h2 hm hn
 cases G:aD rs k with
 |some v=>
  rw[G,show Dq (some v)=.tuple #[.string (str v),.bool true]from rfl]at c1;have A:=Qh c1;clear c1 c2
  go_enter Tryz.func68,Tryz.ntmps68
  go_wp2_with fail
  refine A.out.mono ?_;rintro e B ⟨rfl,rfl⟩;go_wp2;go_ret;exact⟨rfl,rfl⟩
 |none=>
  rw[G,show Dq none=.tuple #[.string ⟨#[]⟩,.bool false]from rfl]at c1;have A:=Qh c1
  cases E:aD gs k with
  |some v=>
   rw[E,show Dq (some v)=.tuple #[.string (str v),.bool true]from rfl]at c2;have D:=Qh c2;clear c1 c2
   go_enter Tryz.func68,Tryz.ntmps68
   go_wp2_with fail
   refine A.out.mono ?_;rintro e B ⟨rfl,rfl⟩;go_wp2_with fail;refine D.out.mono ?_;rintro e B ⟨rfl,rfl⟩;go_wp2;go_ret;exact⟨rfl,rfl⟩
  |none=>
   rw[E,show Dq none=.tuple #[.string ⟨#[]⟩,.bool false]from rfl]at c2;have D:=Qh c2;clear c1 c2
   go_enter Tryz.func68,Tryz.ntmps68
   go_wp2_with fail
   refine A.out.mono ?_;rintro e B ⟨rfl,rfl⟩;go_wp2_with fail;refine D.out.mono ?_;rintro e B ⟨rfl,rfl⟩;go_wp2;go_ret;exact⟨rfl,rfl⟩
theorem Q5 (h1:l[j]? =some c) (h2:∀t,t<j→l[t]? ≠some c):indexByte l c=j:=by
 have B:=indexByte_ge l c
 by_cases h:indexByte l c=-1
 ·exact absurd h1 (indexByte_none h j)
 ·obtain⟨o,A⟩:∃o:Nat,indexByte l c=o:=⟨(indexByte l c).toNat,by omega⟩
  obtain⟨g1,g2⟩:=indexByte_some A;rw[A];rcases Nat.lt_trichotomy o j with h|h|h
  ·exact absurd g1 (h2 o h)
  ·rw[h]
  ·exact absurd h1 (g2 j h)
theorem US (h:∀t,t<l.length→l[t]? ≠some c):indexByte l c=-1:=by
 have D:=indexByte_ge l c
 by_cases A:indexByte l c=-1
 ·exact A
 ·obtain⟨o,B⟩:∃o:Nat,indexByte l c=o:=⟨(indexByte l c).toNat,by omega⟩
  obtain⟨g1,g2⟩:=indexByte_some B;exact absurd g1 (h o (List.getElem?_eq_some_iff.1 g1).1)
theorem get_at (s:ByteArray) (k:Nat) (h:k<s.size):s.data.toList[k]? =some s[k]:=by
 rw[Qd (show k<s.data.toList.length by rw[←jv];exact h)];rfl
theorem V4 (s:ByteArray) (w:World) (hm:s.size≤140737488351232):
 Calls Tryz.prog 69 #[.string s] w fun e w'=>e=.returned (lq (rH s.data.toList))∧w=w':=by
 have c:Hid (s.data.toList.length=s.size):=Qh (jv s).symm
 go_enter Tryz.func69,Tryz.ntmps69
 go_wp2_with fail
 go_loop [0,4] (fun a i=>∃(j:Nat),j≤s.size∧a=.string s∧i=.int .i64 (j:Int)∧Hid (∀t,t<j→s.data.toList[t]? ≠some 46)) (fun _ i=>s.size - (RowKit.intOf i).toNat)
 case atStart=>exact⟨0,Nat.zero_le _,rfl,rfl,Qh (fun t M=>absurd M (by omega))⟩
 case round=>
  obtain⟨j,r,rfl,rfl,W⟩:=hrel
  by_cases m:j<s.size
  ·have Y:=Qh (get_at s j m)
   obtain⟨C,V⟩:∃C:Nat,(s[j]).toNat=C:=⟨_,rfl⟩
   have o:((s[j]).toNat:Int)=(C:Int):=by rw[V]
   have HC:=Qh V;clear V
   by_cases I:C=46
   ·subst I
    have f:Hid (indexByte s.data.toList 46=j):=Qh (Q5 (by rw[Y.out,show s[j]=46 from UInt8.toNat.inj (by rw[HC.out];rfl)]) W.out)
    have R:Hid (rH s.data.toList=if(s.data.toList.drop (j+1)).all aN then bA (s.data.toList.take j)else none):=Qh (by
     unfold rH
     rw[f.out,if_pos (by omega),Int.toNat_natCast])
    go_wp2_with fail
    go_loop [5] (fun i=>∃(k:Nat),j+1≤k∧k≤s.size∧i=.int .i64 (k:Int)∧Hid (∀t,j<t→t<k→∀b,s.data.toList[t]? =some b→aN b=true)) (fun i=>s.size - (RowKit.intOf i).toNat)
    case atStart=>exact⟨j+1,Qk _,by omega,by go_num,Qh (fun t h1 T=>absurd h1 (by omega))⟩
    case round=>
     obtain⟨k,u,y,rfl,g⟩:=hrel
     by_cases q:k<s.size
     ·have H:=Qh (get_at s k q)
      obtain⟨D,J⟩:∃D:Nat,(s[k]).toNat=D:=⟨_,rfl⟩
      have p:((s[k]).toNat:Int)=(D:Int):=by rw[J]
      have G:=Qh J;clear J
      by_cases g1:(D:Int)<48
      ·have E:Hid (rH s.data.toList=none):=Qh (by
        rw[R.out,if_neg];intro h;have B:aN s[k]=true:=List.all_eq_true.1 h _ (List.mem_of_getElem? (i:=k - (j+1)) (by rw[List.getElem?_drop,show j+1+(k - (j+1))=k by omega];exact H.out));simp only[aN,decide_eq_true_eq,G.out]at B
        omega)
       go_wp2;go_ret2;exact⟨by rw[E.out];rfl,rfl⟩
      ·by_cases g2:(57:Int)<(D:Int)
       ·have E:Hid (rH s.data.toList=none):=Qh (by
         rw[R.out,if_neg];intro h;have B:aN s[k]=true:=List.all_eq_true.1 h _ (List.mem_of_getElem? (i:=k - (j+1)) (by rw[List.getElem?_drop,show j+1+(k - (j+1))=k by omega];exact H.out));simp only[aN,decide_eq_true_eq,G.out]at B
         omega)
        go_wp2;go_ret2;exact⟨by rw[E.out];rfl,rfl⟩
       ·have U:Hid (∀t,j<t→t<k+1→∀b,s.data.toList[t]? =some b→aN b=true):=Qh (fun t h1 T b B=>by
         rcases Nat.lt_succ_iff_lt_or_eq.1 T with T|rfl
         ·exact g.out t h1 T b B
         ·rw[H.out]at B
          cases B
          simp only[aN,decide_eq_true_eq,G.out]
          omega)
        go_wp2
        go_round
        case rel=>exact⟨k+1,by omega,by omega,by go_num,U⟩
        case measure=>simp[RowKit.intOf];omega
     ·have E:Hid (rH s.data.toList=bA (s.data.toList.take j)):=Qh (by
       rw[R.out,if_pos];refine List.all_eq_true.2 fun b B=>?_
       obtain⟨i,hi⟩:=List.getElem?_of_mem B;rw[List.getElem?_drop]at hi;have hlen:=(List.getElem?_eq_some_iff.1 hi).1;rw[c.out]at hlen
       exact g.out (j+1+i) (by omega) (by omega) b hi)
      have A:=Qh (fun w=>sR (s.extract 0 j) w)
      have d:Hid ((s.extract 0 j).data.toList=s.data.toList.take j):=Qh (by
       have:=yH s.data.toList j;rw[zF]at this
       rw[this,aS])
      simp only[d.out]at A;obtain⟨Z,L⟩:∃Z,bA (s.data.toList.take j)=Z:=⟨_,rfl⟩
      rw[L]at A;have O:Hid (lq (rH s.data.toList)=lq Z):=Qh (by rw[E.out,L]);clear E L d R f
      cases Z with
      |none=>
       rw[show lq none=.tuple #[.int .i64 0,.bool false]from rfl]at A;go_wp2_with fail;refine(A.out _).mono ?_;rintro e X ⟨rfl,rfl⟩;go_wp2;go_ret2;exact⟨by rw[O.out];rfl,rfl⟩
      |some N=>
       rw[show lq (some N)=.tuple #[.int .i64 (N:Int),.bool true]from rfl]at A;go_wp2_with fail;refine(A.out _).mono ?_;rintro e X ⟨rfl,rfl⟩;go_wp2;go_ret2;exact⟨by rw[O.out];rfl,rfl⟩
   ·have l:((C:Int)==46)=false:=by rw[beq_eq_false_iff_ne];omega
    have U:Hid (∀t,t<j+1→s.data.toList[t]? ≠some 46):=Qh (fun t M=>by
     rcases Nat.lt_succ_iff_lt_or_eq.1 M with M|rfl
     ·exact W.out t M
     ·rw[Y.out]
      intro e
      exact I (by rw[←HC.out,Option.some.inj e];rfl))
    clear I;go_wp2
    go_round
    case rel=>exact⟨j+1,by omega,rfl,by go_num,U⟩
    case measure=>simp[RowKit.intOf];omega
  ·have E:Hid (rH s.data.toList=bA s.data.toList):=Qh (by
    unfold rH
    rw[US (fun t M=>W.out t (by rw[c.out]at M;omega)),if_neg (by omega)])
   have A:=Qh (fun w=>sR s w);obtain⟨Z,L⟩:∃Z,bA s.data.toList=Z:=⟨_,rfl⟩
   rw[L]at A;have O:Hid (lq (rH s.data.toList)=lq Z):=Qh (by rw[E.out,L]);clear E L
   cases Z with
   |none=>
    rw[show lq none=.tuple #[.int .i64 0,.bool false]from rfl]at A;go_wp2_with fail;refine(A.out _).mono ?_;rintro e X ⟨rfl,rfl⟩;go_wp2;go_ret2;exact⟨by rw[O.out];rfl,rfl⟩
   |some N=>
    rw[show lq (some N)=.tuple #[.int .i64 (N:Int),.bool true]from rfl]at A;go_wp2_with fail;refine(A.out _).mono ?_;rintro e X ⟨rfl,rfl⟩;go_wp2;go_ret2;exact⟨by rw[O.out];rfl,rfl⟩
end Attr
namespace kY
open iK Bk Mem Go.Lib
variable {Q:Exit→Act→World→Prop}
structure CP where
 x:NP
 k:Nat
def iL:CP:=⟨aT,0⟩
def CP.cs (y:CP):Array Value:=#[.string (str y.x.m.path),.string (str y.x.m.target),.string (str y.x.m.ao),.int .u8 (y.x.m.kind.toNat:Int),.int .i64 y.x.m.mode,.int .i64 y.x.m.uid,.int .i64 y.x.m.gid,.int .i64 y.x.m.time,.slice y.x.p y.x.m.body.length y.x.c,.int .i64 (y.k:Int)]
theorem CP.qp (y:CP):y.cs.toList=[.string (str y.x.m.path),.string (str y.x.m.target),.string (str y.x.m.ao),.int .u8 (y.x.m.kind.toNat:Int),.int .i64 y.x.m.mode,.int .i64 y.x.m.uid,.int .i64 y.x.m.gid,.int .i64 y.x.m.time,.slice y.x.p y.x.m.body.length y.x.c,.int .i64 (y.k:Int)]:=rfl
def kG (ys:List CP):List Value:=ys.flatMap fun y=>y.cs.toList
theorem Cc (y:CP) (ys:List CP):kG (y::ys)=y.cs.toList++kG ys:=rfl
theorem tr (ys:List CP):(kG ys).length=10*ys.length:=by
 induction ys with
 |nil=>rfl
 |cons y ys ih=>rw[Cc,Qf,ih,CP.qp,List.length_cons];simp only[List.length_cons,List.length_nil];omega
theorem LP (ys:List CP) (y:CP):kG (ys++[y])=kG ys++y.cs.toList:=by simp[kG]
theorem QF (a b:List CP):kG (a++b)=kG a++kG b:=by simp[kG]
theorem zf (ys:List CP):∀i,i<ys.length→∀j,j<10→(kG ys)[10*i+j]? =(ys.getD i iL).cs[j]? :=by
 induction ys with
 |nil=>intro i h;simp at h
 |cons y ys ih=>
  intro i h j A;rw[Cc];have hl:y.cs.toList.length=10:=rfl
  cases i with
  |zero=>rw[List.getElem?_append_left (by omega),show 10*0+j=j by omega,Array.getElem?_toList];rfl
  |succ i=>
   rw[List.getElem?_append_right (by omega),hl,show 10*(i+1)+j - 10=10*i+j by omega,ih i (by simpa using h) j A];rfl
theorem ER (ys:List CP):∀u∈kG ys,u.oneCell'=true:=by
 intro u hu;obtain⟨y,_,A⟩:=List.mem_flatMap.1 hu;rw[CP.qp]at A;simp only[List.mem_cons,List.not_mem_nil,or_false]at A;rcases A with rfl|rfl|rfl|rfl|rfl|rfl|rfl|rfl|rfl|rfl<;>rfl
def wu (w:World) (p:Option Addr) (n:Nat) (ys:List CP):Prop:=
 ys.length=n∧(∀y∈ys,je w y.x)∧(0<n→∃b o,p=some ⟨b,o,none⟩∧b<w.heap.size∧∀i,i<n→∀j,j<10→w.cell? ⟨b,o+10*i+j,none⟩=(ys.getD i iL).cs[j]?)
theorem wu.below {ys:List CP} (h:wu w p n ys) (hb:Below w.heap.size w w'):wu w' p n ys:=by
 refine⟨h.1,fun y hy=>(h.2.1 y hy).below hb,fun B=>?_⟩;obtain⟨b,o,rfl,A,hc⟩:=h.2.2 B;refine⟨b,o,rfl,Nat.lt_of_lt_of_le A hb.size,fun i hi j D=>?_⟩;rw[hb.cell (p:=⟨b,o+10*i+j,none⟩) A];exact hc i hi j D
theorem Od {e:TypeId} {ys:List CP} (h:w.ownsRow base e 10 v ys.length (kG ys)) (hx:∀y∈ys,je w y.x):∃p c,v=.slice p ys.length c∧ys.length≤c∧c≤maxLen∧wu w p ys.length ys:=by
 rcases h.2 with⟨rfl,A⟩|⟨g,cap,cur,rfl,hb,hg,hn,hc,hs,ht⟩
 ·exact⟨none,0,by rw[A],by omega,by decide,rfl,hx,fun h=>by omega⟩
 ·refine⟨some ⟨g,0,none⟩,cap,rfl,hn,hc,rfl,hx,fun A=>⟨g,0,rfl,(Array.getElem?_eq_some_iff.1 hg).1,fun i hi j B=>?_⟩⟩
  have get:∀j,j<10*ys.length→w.cell? ⟨g,j,none⟩=(kG ys)[j]? :=fun j B=>by
   unfold World.cell?;rw[hg,←ht,List.getElem?_take,if_pos (by omega)];simp
  rw[Nat.zero_add,get _ (by omega)];exact zf ys i hi j B
def sZ (w:World) (b o:Nat) (y:CP):Prop:=
 w.cell? ⟨b,o,none⟩=some (.string (str y.x.m.path))∧w.cell? ⟨b,o+1,none⟩=some (.string (str y.x.m.target))∧w.cell? ⟨b,o+2,none⟩=some (.string (str y.x.m.ao))∧w.cell? ⟨b,o+3,none⟩=some (.int .u8 (y.x.m.kind.toNat:Int))∧w.cell? ⟨b,o+4,none⟩=some (.int .i64 y.x.m.mode)∧w.cell? ⟨b,o+5,none⟩=some (.int .i64 y.x.m.uid)∧w.cell? ⟨b,o+6,none⟩=some (.int .i64 y.x.m.gid)∧w.cell? ⟨b,o+7,none⟩=some (.int .i64 y.x.m.time)∧w.cell? ⟨b,o+8,none⟩=some (.slice y.x.p y.x.m.body.length y.x.c)∧w.cell? ⟨b,o+9,none⟩=some (.int .i64 (y.k:Int))
theorem sZ.below {y:CP} (h:sZ w b o y) (hb:b<w.heap.size) (hw:Below w.heap.size w w'):sZ w' b o y:=by
 unfold sZ at h⊢;simp only[hw.cell (p:=⟨b,_,none⟩) hb];exact h
theorem wu.rJ {ys:List CP} (h:wu w p n ys) (hi:i<n):∃b o,p=some ⟨b,o,none⟩∧b<w.heap.size∧je w (ys.getD i iL).x∧sZ w b (o+i*10) (ys.getD i iL):=by
 obtain⟨b,o,rfl,B,hc⟩:=h.2.2 (by omega)
 have A:je w (ys.getD i iL).x:=h.2.1 _ (by
  have hl:i<ys.length:=by rw[h.1];exact hi
  rw[List.getD,Qd hl]
  exact List.getElem_mem hl)
 rw[Nat.mul_comm i 10];exact⟨b,o,rfl,B,A,hc i hi 0 (by omega),hc i hi 1 (by omega),hc i hi 2 (by omega),hc i hi 3 (by omega),hc i hi 4 (by omega),hc i hi 5 (by omega),hc i hi 6 (by omega),hc i hi 7 (by omega),hc i hi 8 (by omega),hc i hi 9 (by omega)⟩
theorem sy (ys:List CP) (k:Nat) (h:k<ys.length):ys.getD k iL∈ys:=by
 rw[List.getD,Qd h];exact List.getElem_mem h
theorem OM:(Tryz.prog.info? 81).map (fun i=>(i.zero,i.size,i.bytes))=some (some (.agg #[.string ⟨#[]⟩,.string ⟨#[]⟩,.string ⟨#[]⟩,.int .u8 0,.int .i64 0,.int .i64 0,.int .i64 0,.int .i64 0,.slice none 0 0,.int .i64 0]),10,120):=by kernel_rfl
theorem td {o:Oper} (vI:o.guard=none) (s x:Operand)
 (ho:o.op=.call {callee:=.builtin .append,args:=#[s,x],argTypes:=#[79,79]})
 (base:Nat) (v:Value) (xs:List CP) (hs:a.eval s=v) (aK:w.ownsRow base 81 10 v xs.length (kG xs))
 (b:Nat) (c:Nat) (y:CP) (hx:a.eval x=.slice (some ⟨b,0,none⟩) 1 c) (hb:au w b 81 y.cs) (qy:xs.length≤1000000) (jx:base≤w.heap.size)
 (h:∀v' w',w'.ownsRow base 81 10 v' (xs++[y]).length (kG (xs++[y]))→w.grownBy w' v.ownBlock→jX w v v'→wpList Tryz.prog ops Q rest (a.put o.dst v') w'):wpList Tryz.prog ops Q (o::rest) a w:=by
 obtain⟨i0,hi,L,I,J⟩:=info_parts OM
 obtain⟨v',w',H,A,B,D⟩:=kK (P:=Tryz.prog) base 79 o.type 81 i0 _ 10 120 Tryz.underlying79 hi L I J rfl (by decide) v xs.length (kG xs) aK ⟨b,0,none⟩ 1 c y.cs.toList rfl (by
  intro j u G;rw[WideShapes.add_plain,Nat.zero_add,hb.cell,←Array.getElem?_toList]
  exact G) (fun u hu=>ER [y] u (by simpa [kG]using hu)) (by unfold maxLen;omega) (by omega) jx
 refine wpList_plain vI fun K E=>?_
 unfold Oper.wp;simp[execOp,ho,resolve,invoke,builtin,hs,hx,H,Result.andThen];rw[←LP,show xs.length+1=(xs++[y]).length by simp]at A;exact E _ _ (h v' w' A B D)
theorem IG {o:Oper} (vI:o.guard=none) (s x:Operand)
 (ho:o.op=.call {callee:=.builtin .append,args:=#[s,x],argTypes:=#[79,79]})
 (base:Nat) (v:Value) (n:Nat) (xs:List CP) (hn:xs.length=n) (hs:a.eval s=v) (aK:w.ownsRow base 81 10 v n (kG xs))
 (p:Option Addr) (m c:Nat) (ys:List CP) (hx:a.eval x=.slice p m c) (hb:wu w p m ys) (qy:(n+m)*120≤140737488355328) (jx:base≤w.heap.size)
 (h:∀v' w',w'.ownsRow base 81 10 v' (xs++ys).length (kG (xs++ys))→w.grownBy w' v.ownBlock→wpList Tryz.prog ops Q rest (a.put o.dst v') w'):wpList Tryz.prog ops Q (o::rest) a w:=by
 obtain⟨i,hi,E,H,I⟩:=info_parts OM;have hl:=hb.1;rcases p with _|ad
 ·have hm:m=0:=by
   rcases Nat.eq_zero_or_pos m with h0|h0
   ·exact h0
   ·obtain⟨_,_,he,_⟩:=hb.2.2 h0
    cases he
  subst hm;obtain rfl:ys=[]:=List.eq_nil_of_length_eq_zero hl
  have G:(Builtin.append_ #[79,79] o.type #[v,.slice none 0 c]).run Tryz.prog w=.ok v w:=by
   rcases aK.2 with⟨rfl,rfl⟩|⟨g,cap,cur,rfl,_,_,Jo,_⟩
   ·simp[Builtin.append_,run_underlying Tryz.underlying79,sizeOf,typeInfo,hi,Builtin.lenOf,Builtin.firstCells]
   ·simp[Builtin.append_,run_underlying Tryz.underlying79,sizeOf,typeInfo,hi,Builtin.lenOf,Builtin.firstCells,Jo,storeCells]
  refine wpList_plain vI fun K D=>?_
  unfold Oper.wp;simp[execOp,ho,resolve,invoke,builtin,hs,hx,G,Result.andThen];exact D _ _ (h v w (by rw[List.append_nil,hn];exact aK) (World.grownBy.refl w _))
 ·refine wpList_append_own w vI s x 79 ho base 81 i _ 10 120 Tryz.underlying79 hi E H I rfl (by decide) v n (kG xs) hs aK ad m c (kG ys) hx (by rw[tr,hl];omega) ?_ (ER ys) (by unfold maxLen;omega) qy jx ?_
  ·intro j u B
   have J:j<10*m:=by
    have:=(List.getElem?_eq_some_iff.1 B).1;rw[tr,hl]at this;exact this
   obtain⟨b,off,he,_,hc⟩:=hb.2.2 (by omega)
   cases he
   have h1:=hc (j / 10) (by omega) (j % 10) (by omega);have A:=zf ys (j / 10) (by omega) (j % 10) (by omega);rw[show 10*(j / 10)+j % 10=j by omega]at A;rw[WideShapes.add_plain,show off+j=off+10*(j / 10)+j % 10 by omega,h1,←A];exact B
  ·intro v' w' h1 A _
   rw[←QF,show n+m=(xs++ys).length by rw[Qf,hn,hl]]at h1;exact h v' w' h1 A
def Rc (W:World) (g:Nat) (ys:List CP):Prop:=∃cur,au W g 81 cur∧10*ys.length≤cur.size∧∀i,i<ys.length→∀j,j<10→cur[10*i+j]? =(ys.getD i iL).cs[j]?
theorem Rc.rJ {ys:List CP} (h:Rc W g ys) (hk:k<ys.length):sZ W g (k*10) (ys.getD k iL):=by
 obtain⟨cur,A,_,hc⟩:=h
 have key:∀j,j<10→W.cell? ⟨g,k*10+j,none⟩=(ys.getD k iL).cs[j]? :=fun j B=>by
  rw[A.cell,Nat.mul_comm,hc k hk j B]
 exact⟨key 0 (by omega),key 1 (by omega),key 2 (by omega),key 3 (by omega),key 4 (by omega),key 5 (by omega),key 6 (by omega),key 7 (by omega),key 8 (by omega),key 9 (by omega)⟩
theorem XV (ys:List CP) (k i:Nat) (y:CP) (hk:k<ys.length):(ys.set k y).getD i iL=if i=k then y else ys.getD i iL:=by
 rw[List.getD,List.getD,List.getElem?_set]
 by_cases h:k=i
 ·subst h
  simp[hk]
 ·rw[if_neg h,if_neg (fun e=>h e.symm)]
def De (W:World) (g o:Nat) (y:CP):World:=(((((((((W.setCell ⟨g,o,none⟩ (.string (str y.x.m.path))).setCell ⟨g,o+1,none⟩ (.string (str y.x.m.target))).setCell ⟨g,o+2,none⟩ (.string (str y.x.m.ao))).setCell ⟨g,o+3,none⟩ (.int .u8 (y.x.m.kind.toNat:Int))).setCell ⟨g,o+4,none⟩ (.int .i64 y.x.m.mode)).setCell ⟨g,o+5,none⟩ (.int .i64 y.x.m.uid)).setCell ⟨g,o+6,none⟩ (.int .i64 y.x.m.gid)).setCell ⟨g,o+7,none⟩ (.int .i64 y.x.m.time)).setCell ⟨g,o+8,none⟩ (.slice y.x.p y.x.m.body.length y.x.c)).setCell ⟨g,o+9,none⟩ (.int .i64 (y.k:Int))
theorem Rc.set {ys:List CP} (h:Rc W g ys) (hk:k<ys.length) (y:CP):Rc (De W g (k*10) y) g (ys.set k y):=by
 obtain⟨cur,B,hs,hc⟩:=h;have E:=(aW (aW (aW (aW (aW (aW (aW (aW (aW (aW B (k*10) (.string (str y.x.m.path))) (k*10+1) (.string (str y.x.m.target))) (k*10+2) (.string (str y.x.m.ao))) (k*10+3) (.int .u8 (y.x.m.kind.toNat:Int))) (k*10+4) (.int .i64 y.x.m.mode)) (k*10+5) (.int .i64 y.x.m.uid)) (k*10+6) (.int .i64 y.x.m.gid)) (k*10+7) (.int .i64 y.x.m.time)) (k*10+8) (.slice y.x.p y.x.m.body.length y.x.c)) (k*10+9) (.int .i64 (y.k:Int)))
 have e:zB cur (k*10) y.cs.toList=((((((((((cur.setIfInBounds (k*10) (.string (str y.x.m.path))).setIfInBounds (k*10+1) (.string (str y.x.m.target))).setIfInBounds (k*10+2) (.string (str y.x.m.ao))).setIfInBounds (k*10+3) (.int .u8 (y.x.m.kind.toNat:Int))).setIfInBounds (k*10+4) (.int .i64 y.x.m.mode)).setIfInBounds (k*10+5) (.int .i64 y.x.m.uid)).setIfInBounds (k*10+6) (.int .i64 y.x.m.gid)).setIfInBounds (k*10+7) (.int .i64 y.x.m.time)).setIfInBounds (k*10+8) (.slice y.x.p y.x.m.body.length y.x.c)).setIfInBounds (k*10+9) (.int .i64 (y.k:Int))):=by
  rw[CP.qp];simp only[zB,Nat.add_assoc,Nat.reduceAdd]
 refine⟨zB cur (k*10) y.cs.toList,by unfold De;rw[e];exact E,by rw[zC,List.length_set];exact hs,fun i hi j D=>?_⟩;rw[List.length_set]at hi;have hl:y.cs.toList.length=10:=rfl;rw[XV ys k i y hk,Dw _ _ _ _ (by rw[hl];omega),hl]
 by_cases A:i=k
 ·subst A
  rw[if_pos rfl,if_pos (by omega),show 10*i+j - i*10=j by omega,Array.getElem?_toList]
 ·rw[if_neg A,if_neg (by omega),hc i hi j D]
theorem tL (hg:S g) (y:CP):Kept S W (De W g o y):=
 ((((((((((Kept.refl S W).setCell (a:=⟨g,o,none⟩) (.inr hg) _).setCell (a:=⟨g,o+1,none⟩) (.inr hg) _).setCell (a:=⟨g,o+2,none⟩) (.inr hg) _).setCell (a:=⟨g,o+3,none⟩) (.inr hg) _).setCell (a:=⟨g,o+4,none⟩) (.inr hg) _).setCell (a:=⟨g,o+5,none⟩) (.inr hg) _).setCell (a:=⟨g,o+6,none⟩) (.inr hg) _).setCell (a:=⟨g,o+7,none⟩) (.inr hg) _).setCell (a:=⟨g,o+8,none⟩) (.inr hg) _).setCell (a:=⟨g,o+9,none⟩) (.inr hg) _
theorem ai3 {B:Nat} {ys:List CP} (h:w'.ownsRow B 81 10 v ys.length (kG ys)) (h0:0<ys.length):∃g c,v=.slice (some ⟨g,0,none⟩) ys.length c∧B≤g∧ys.length≤c∧c≤maxLen∧Rc w' g ys:=by
 rcases h.2 with⟨_,h1⟩|⟨g,cap,cur,h1,hb,hg,h2,h3,h4,h5⟩
 ·omega
 ·have A:10*ys.length≤cur.size:=by
   have D:=congrArg List.length h5;rw[Qg,tr]at D;have:cur.toList.length=cur.size:=rfl;omega
  refine⟨g,cap,h1,hb,h2,h3,cur,hg,A,fun i hi j E=>?_⟩;rw[←zf ys i hi j E,←h5,List.getElem?_take,if_pos (by omega)];simp
end kY
namespace kY
open iK Bk Rec Block Mem Go.Lib
structure Gd (w wr:World) (xs:List NP) (k:Nat) (o:Value) (ys:List NP):Prop where
 bel:Below w.heap.size w wr
 row:wr.ownsRow w.heap.size 52 9 o ys.length (j5 ys)
 len:ys.length=k
 same:ys.map NP.m=(xs.take k).map NP.m
 bodies:∀y∈ys,je wr y
 off:∀y∈ys,0<y.m.body.length→∀z,y.p=some z→o.ownBlock≠some z.block
section
variable {w wr w':World} {xs ys:List NP} {k:Nat} {o:Value}
theorem Gd.below (h:Gd w wr xs k o ys) (hb:Below wr.heap.size wr w'):Gd w w' xs k o ys where
 bel:=h.bel.trans (hb.mono h.bel.size)
 row:=iD h.row hb
 len:=h.len
 same:=h.same
 bodies:=fun y hy=>(h.bodies y hy).below hb
 off:=h.off
theorem Gd.add (h:Gd w wr xs k o ys) (hk:k<xs.length) {y:NP} (hy:y.m=(xs.getD k aT).m) (hb:je wr y) (ho:0<y.m.body.length→∀z,y.p=some z→o.ownBlock≠some z.block)
 {o':Value} (bM:w'.ownsRow w.heap.size 52 9 o' (ys++[y]).length (j5 (ys++[y]))) (hg:wr.grownBy w' o.ownBlock) (hn:jX wr o o'):Gd w w' xs (k+1) o' (ys++[y]):=by
 have D:Kept (fun b=>o.ownBlock=some b) wr w':=(Kept.refl _ wr).grown hg (fun k hk=>.inr hk)
 have lt:∀{b:Nat},o'.ownBlock=some b→b<wr.heap.size→o.ownBlock=some b:=fun hb E=>by
  rcases hn _ hb with h|h
  ·exact h
  ·omega
 have all:∀x∈ys++[y],je wr x∧(0<x.m.body.length→∀z,x.p=some z→o.ownBlock≠some z.block):=fun x hx=>by
  rcases List.mem_append.1 hx with hx|hx
  ·exact⟨h.bodies x hx,h.off x hx⟩
  ·rw[List.mem_singleton.1 hx]
   exact⟨hb,ho⟩
 exact
 {bel:=h.bel.trans (D.below h.bel.size (fun k hk=>(World.ownsRow.lt h.row _ hk).1))
  row:=bM
  len:=by rw[Qf,h.len];rfl
  same:=by rw[List.map_append,h.same,NB xs k hk,←hy];rfl
  bodies:=fun x hx=>(all x hx).1.kept D (fun A z B=>(all x hx).2 A z B)
  off:=fun x hx A z B e=>(all x hx).2 A z B (lt e (qP (all x hx).1.nB A B))}
end
end kY
end Go.Proofs.YtdhibldkldlfpaaGreatDoor
