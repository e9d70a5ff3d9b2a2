/- Texts of this seat, merged: what the proof reaches. -/
import Derived.Test.YtphehianajckaaaHeapPlaysX4
import Derived.RangeFuncNested
import Derived.Test.YtphehianajckaaaHeapPlaysX15
import Derived.Test.YtphehianajckaaaHeapPlaysX5
import Derived.Test.YtphehianajckaaaHeapPlaysX3
import Derived.Laws.AppendOwn
import Derived.OwnWalk
import Derived.Laws.StructEq
import Derived.Test.YtphehianajckaaaHeapPlaysX11
import Derived.Test.YtphehianajckaaaHeapPlaysX6
import Derived.Test.YtphehianajckaaaHeapPlaysX13
import Derived.Deep.SlicePairs
import Derived.OpenShut
import Derived.SizedLaws
namespace Go.Proofs.Ytphehianajckaaa
namespace Base
end Base
namespace Bk
end Bk
namespace Byt
end Byt
namespace Head
end Head
namespace Hp
end Hp
namespace Itm
end Itm
namespace Mem
end Mem
namespace Rec
end Rec
namespace Tre
end Tre
namespace Txt
end Txt
end Go.Proofs.Ytphehianajckaaa
section
namespace Go.Proofs.Ytphehianajckaaa.Bk
open Go.ChangeShapes Go.WideShapes Go.ChangeAt Go.RowKit Base Byt
set_option linter.unusedVariables false
def Blk (W:World) (b:Nat) (t:TypeId) (cs:Array Value):Prop:=W.heap[b]? = some (.cells cs t (0,0))
section
variable {W W':World} {b:Nat} {t:TypeId} {cs:Array Value}
theorem Blk.lt (h:Blk W b t cs):b < W.heap.size:=(Array.getElem?_eq_some_iff.1 h).1
theorem Blk.cell (h:Blk W b t cs) (i:Nat):W.cell? ⟨b,i,none⟩=cs[i]?:=by simp [World.cell?,show W.heap[b]? = _ from h]
theorem Blk.frozen (h:Blk W b t cs) (i:Nat):W.frozen? ⟨b,i,none⟩=false:=by simp [World.frozen?,show W.heap[b]? = _ from h]
theorem Blk.new (W:World) (t:TypeId) (cs:Array Value):Blk (W.alloc (.cells cs t)) W.heap.size t cs:=World.alloc_heap_new W _
theorem Blk.kept (h:Blk W b t cs) {row:Option Nat} (hg:W.grownBy W' row) (hr:∀ r,row=some r → ∃ o:Obj,W.heap[r]? = some o∧o.isCells=false):Blk W' b t cs:=
 (grownBy_keeps_cells hg hr h rfl).trans h
theorem Blk.alloc (h:Blk W b t cs) (o:Obj):Blk (W.alloc o) b t cs:=h.kept (World.grownBy_alloc W o none) (fun r e => by cases e)
theorem Blk.drewN (h:Blk W b t cs) (n:Nat):Blk (W.drewN n) b t cs:=h
theorem Blk.drew (h:Blk W b t cs):Blk W.drew b t cs:=h
theorem Blk.below (h:Blk W b t cs) {n:Nat} (hb:Below n W W') (hn:b < n):Blk W' b t cs:=(hb.block b hn).trans h
theorem Blk.keptS {S:Nat → Prop} (h:Blk W b t cs) (hk:Kept S W W') (hn:¬ S b):Blk W' b t cs:=hk.some_ h hn
theorem Blk.set (h:Blk W b t cs) (i:Nat) (v:Value) (hi:i < cs.size):Blk (W.setCell ⟨b,i,none⟩ v) b t (cs.set i v hi):=by
 obtain ⟨hl,he⟩:=Array.getElem?_eq_some_iff.1 h;unfold Blk World.setCell;refine Array.getElem?_eq_some_iff.2 ⟨by simpa using hl,?_⟩
 rw [Array.getElem_modify,if_pos rfl,he];simp [Array.setIfInBounds,hi]
end
end Go.Proofs.Ytphehianajckaaa.Bk
end
section
namespace Go.Proofs.Ytphehianajckaaa.Mem
open Go.ChangeShapes Go.WideShapes Go.ChangeAt Go.RowKit Base Byt Txt Bk Go.Lib
set_option linter.unusedVariables false
set_option maxRecDepth 100000
structure MP where
 m:MemV
 p:Option Addr
 c:Nat
def zeroM:MemV:=⟨[],[],0,0,0,0,0,[]⟩
def zeroP:MP:=⟨zeroM,none,0⟩
def memC (m:MemV) (p:Option Addr) (c:Nat):Array Value:=#[.string (str m.path),.string (str m.target),.int .u8 (m.kind.toNat:Int),.int .i64 m.mode,.int .i64 m.uid,.int .i64 m.gid,.int .i64 m.time,.slice p m.body.length c]
def MP.cs (x:MP):Array Value:=memC x.m x.p x.c
theorem MP.cs_list (x:MP):x.cs.toList=[.string (str x.m.path),.string (str x.m.target),.int .u8 (x.m.kind.toNat:Int),.int .i64 x.m.mode,.int .i64 x.m.uid,.int .i64 x.m.gid,.int .i64 x.m.time,.slice x.p x.m.body.length x.c]:=rfl
structure BodyAt (w:World) (x:MP):Prop where
 bat:BAt w x.p x.m.body.length x.m.body
 le:x.m.body.length≤x.c
 mx:x.c≤maxLen
theorem BodyAt.kept {S:Nat → Prop} {w w':World} {x:MP} (h:BodyAt w x) (hk:Kept S w w') (hn:0 < x.m.body.length → ∀ a,x.p=some a → ¬ S a.block):BodyAt w' x:=⟨h.bat.kept hk hn,h.le,h.mx⟩
theorem BodyAt.below {w w':World} {x:MP} (h:BodyAt w x) (hb:Below w.heap.size w w'):BodyAt w' x:=⟨h.bat.below hb,h.le,h.mx⟩
def MemsAt (w:World) (p:Option Addr) (n:Nat) (xs:List MP):Prop:=
 xs.length=n∧(∀ x ∈ xs,BodyAt w x)∧(0 < n → ∃ b o,p=some ⟨b,o,none⟩∧b < w.heap.size ∧ ∀ i,i < n → ∀ j,j < 8 → w.cell? ⟨b,o+8 * i+j,none⟩=(xs.getD i zeroP).cs[j]?)
theorem MemsAt.below {w w':World} {p:Option Addr} {n:Nat} {xs:List MP} (h:MemsAt w p n xs) (hb:Below w.heap.size w w'):MemsAt w' p n xs:=by
 refine ⟨h.1,fun x hx => (h.2.1 x hx).below hb,fun h0 => ?_⟩
 obtain ⟨b,o,rfl,hbw,hc⟩:=h.2.2 h0;refine ⟨b,o,rfl,Nat.lt_of_lt_of_le hbw hb.size,fun i hi j hj => ?_⟩
 rw [hb.cell (p:=⟨b,o+8 * i+j,none⟩) hbw];exact hc i hi j hj
theorem MemsAt.cells {w:World} {p:Option Addr} {n:Nat} {xs:List MP} (h:MemsAt w p n xs) {i:Nat} (hi:i < n):∃ b o,p=some ⟨b,o,none⟩∧b < w.heap.size∧BodyAt w (xs.getD i zeroP) ∧
 w.cell? ⟨b,o+8 * i,none⟩=some (.string (str (xs.getD i zeroP).m.path))∧w.cell? ⟨b,o+8 * i+1,none⟩=some (.string (str (xs.getD i zeroP).m.target)) ∧
 w.cell? ⟨b,o+8 * i+2,none⟩=some (.int .u8 ((xs.getD i zeroP).m.kind.toNat:Int))∧w.cell? ⟨b,o+8 * i+3,none⟩=some (.int .i64 (xs.getD i zeroP).m.mode) ∧
 w.cell? ⟨b,o+8 * i+4,none⟩=some (.int .i64 (xs.getD i zeroP).m.uid)∧w.cell? ⟨b,o+8 * i+5,none⟩=some (.int .i64 (xs.getD i zeroP).m.gid) ∧
 w.cell? ⟨b,o+8 * i+6,none⟩=some (.int .i64 (xs.getD i zeroP).m.time)∧w.cell? ⟨b,o+8 * i+7,none⟩=some (.slice (xs.getD i zeroP).p (xs.getD i zeroP).m.body.length (xs.getD i zeroP).c):=by
 obtain ⟨b,o,rfl,hbw,hc⟩:=h.2.2 (by omega)
 have hb:BodyAt w (xs.getD i zeroP):=h.2.1 _ (by
  have hl:i < xs.length:=by rw [h.1];exact hi
  rw [List.getD,List.getElem?_eq_getElem hl]
  exact List.getElem_mem hl)
 exact ⟨b,o,rfl,hbw,hb,hc i hi 0 (by omega),hc i hi 1 (by omega),hc i hi 2 (by omega),hc i hi 3 (by omega),hc i hi 4 (by omega),hc i hi 5 (by omega),hc i hi 6 (by omega),hc i hi 7 (by omega)⟩
theorem run_append_newS {P:Program} {w:World} (base:Nat) (t ty e:TypeId) (i:TypeInfo) (z:Value) (size bytes:Nat) (ht:P.underlying t=some (.slice e)) (hi:P.info? e=some i) (hz:i.zero=some z)
 (hsize:i.size=size) (hby:i.bytes=bytes) (hzs:z.cells.size=size) (hsz:0 < size)
 (v:Value) (n:Nat) (xs:List Value) (hown:w.ownsRow base e size v n xs)
 (a:Addr) (m c:Nat) (news:List Value) (hl:news.length=m * size) (hnews:∀ j u,news[j]? = some u → w.cell? (a.add j)=some u) (h1:∀ u ∈ news,u.oneCell'=true)
 (h63:n+m≤maxLen) (hbytes:(n+m) * bytes≤140737488355328) (hbase:base≤w.heap.size) :
 ∃ v' w',(Builtin.append_ #[t,t] ty #[v,.slice (some a) m c]).run P w=.ok v' w'∧w'.ownsRow base e size v' (n+m) (xs++news)∧w.grownBy w' v.ownBlock∧NewOr w v v':=by
 obtain ⟨v',w',hr,h2,h3,h4⟩:=run_append_own (P:=P) w base t ty e i z size bytes ht hi hz hsize hby hzs hsz v n xs hown a m c news hl hnews h1 h63 hbytes hbase;refine ⟨v',w',hr,h2,h3,?_⟩;have hown':=hown;rcases hown.2 with ⟨rfl,rfl⟩ | ⟨g,cap,cur,rfl,hbg,hg,hnc,hcm,hcs,htake⟩
 ·have hx:xs=[]:=List.eq_nil_of_length_eq_zero (by simpa using hown.1)
  subst hx;obtain ⟨v2,w2,hr2,h22,_,_⟩:=run_append_own (P:=P) w w.heap.size t ty e i z size bytes ht hi hz hsize hby hzs hsz _ 0 [] (World.ownsRow_nil w w.heap.size e size) a m c news hl hnews h1 h63 hbytes (Nat.le_refl _);rw [hr] at hr2
  cases hr2
  exact fun k hk => Or.inr (h22.lt k hk).1
 ·by_cases hroom:n+m≤cap
  ·obtain ⟨w2,hr2,_,_⟩:=run_append_own_spare (P:=P) w base t ty e i size ht hi hsize g n cap xs hown' a m c news hl hnews h1 hroom
   rw [hr] at hr2
   cases hr2
   exact fun k hk => Or.inl hk
  ·have holds:∀ j u,xs[j]? = some u → w.cell? ((⟨g,0,none⟩:Addr).add j)=some u:=hown'.cells (g:=g) rfl
   have hr2:=run_append_grow (P:=P) w t ty e i z ht hi hz ⟨g,0,none⟩ n cap xs (by rw [hsize];exact hown'.1) holds a m c news (by rw [hsize];exact hl) hnews (by omega) (by unfold maxLen at h63;omega) (growslice_fits (by omega) (by rw [hby];exact hbytes))
   rw [hr] at hr2
   cases hr2
   exact fun k hk => Or.inr (by simp [Value.ownBlock] at hk;omega)
end Go.Proofs.Ytphehianajckaaa.Mem
end
section
namespace Go.Proofs.Ytphehianajckaaa.Itm
open Go.ChangeShapes Go.WideShapes Go.ChangeAt Go.RowKit Base Byt Txt Bk Mem Tre Go.Lib
set_option linter.unusedVariables false
set_option maxRecDepth 100000
structure IP where
 m:ItemV
 p:Option Addr
 c:Nat
def zeroJ:IP:=⟨zeroI,none,0⟩
def itmC (m:ItemV) (p:Option Addr) (c:Nat):Array Value:=#[.string (str m.key),.int .i64 m.seq,.slice p m.data.length c]
def IP.cs (x:IP):Array Value:=itmC x.m x.p x.c
theorem IP.cs_list (x:IP):x.cs.toList=[.string (str x.m.key),.int .i64 x.m.seq,.slice x.p x.m.data.length x.c]:=rfl
structure DatAt (w:World) (x:IP):Prop where
 bat:BAt w x.p x.m.data.length x.m.data
 le:x.m.data.length≤x.c
 mx:x.c≤maxLen
theorem DatAt.kept {S:Nat → Prop} {w w':World} {x:IP} (h:DatAt w x) (hk:Kept S w w') (hn:0 < x.m.data.length → ∀ a,x.p=some a → ¬ S a.block):DatAt w' x:=⟨h.bat.kept hk hn,h.le,h.mx⟩
theorem DatAt.below {w w':World} {x:IP} (h:DatAt w x) (hb:Below w.heap.size w w'):DatAt w' x:=⟨h.bat.below hb,h.le,h.mx⟩
def flatJ (xs:List IP):List Value:=xs.flatMap fun x => x.cs.toList
def ItemsAt (w:World) (p:Option Addr) (n:Nat) (xs:List IP):Prop:=
 xs.length=n∧(∀ x ∈ xs,DatAt w x)∧(0 < n → ∃ b o,p=some ⟨b,o,none⟩∧b < w.heap.size ∧ ∀ i,i < n → ∀ j,j < 3 → w.cell? ⟨b,o+3 * i+j,none⟩=(xs.getD i zeroJ).cs[j]?)
theorem ItemsAt.below {w w':World} {p:Option Addr} {n:Nat} {xs:List IP} (h:ItemsAt w p n xs) (hb:Below w.heap.size w w'):ItemsAt w' p n xs:=by
 refine ⟨h.1,fun x hx => (h.2.1 x hx).below hb,fun h0 => ?_⟩
 obtain ⟨b,o,rfl,hbw,hc⟩:=h.2.2 h0;refine ⟨b,o,rfl,Nat.lt_of_lt_of_le hbw hb.size,fun i hi j hj => ?_⟩
 rw [hb.cell (p:=⟨b,o+3 * i+j,none⟩) hbw];exact hc i hi j hj
def Cells3 (w:World) (b o:Nat) (y:IP):Prop:=
 w.cell? ⟨b,o,none⟩=some (.string (str y.m.key))∧w.cell? ⟨b,o+1,none⟩=some (.int .i64 y.m.seq)∧w.cell? ⟨b,o+2,none⟩=some (.slice y.p y.m.data.length y.c)
theorem Cells3.below {w w':World} {b o:Nat} {y:IP} (h:Cells3 w b o y) (hb:b < w.heap.size) (hw:Below w.heap.size w w'):Cells3 w' b o y:=by
 unfold Cells3 at h ⊢;simp only [hw.cell (p:=⟨b,_,none⟩) hb];exact h
theorem takeJ_succ (xs:List IP) (k:Nat) (h:k < xs.length):(xs.take (k+1)).map IP.m=(xs.take k).map IP.m++[(xs.getD k zeroJ).m]:=by
 rw [List.take_succ_eq_append_getElem h,List.map_append,List.getD,List.getElem?_eq_getElem h];rfl
theorem ItemsAt.drop {w:World} {p:Option Addr} {n:Nat} {xs:List IP} (h:ItemsAt w p n xs) {k:Nat} (hk:k≤n):ItemsAt w p k (xs.take k):=by
 refine ⟨by rw [List.length_take,h.1];omega,fun x hx => h.2.1 x (List.mem_of_mem_take hx),fun h0 => ?_⟩
 obtain ⟨b,o,rfl,hb,hc⟩:=h.2.2 (by omega)
 refine ⟨b,o,rfl,hb,fun i hi j hj => ?_⟩
 rw [hc i (by omega) j hj]
 congr 2
 simp [List.getD,hi]
end Go.Proofs.Ytphehianajckaaa.Itm
end
section
namespace Go.Proofs.Ytphehianajckaaa.Hea
open Go.ChangeShapes Go.WideShapes Go.ChangeAt Go.RowKit Base Byt Txt Bk Mem Tre Itm Go.Lib
set_option linter.unusedVariables false
set_option maxRecDepth 100000
structure EP where
 m:EntV
 p:Option Addr
 c:Nat
def zeroEn:EP:=⟨zeroV15,none,0⟩
def entC (m:EntV) (p:Option Addr) (c:Nat):Array Value:=#[.string (str m.it.key),.int .i64 m.it.seq,.slice p m.it.data.length c,.int .i64 m.run]
def EP.cs (x:EP):Array Value:=entC x.m x.p x.c
theorem EP.cs_list (x:EP):x.cs.toList=[.string (str x.m.it.key),.int .i64 x.m.it.seq,.slice x.p x.m.it.data.length x.c,.int .i64 x.m.run]:=rfl
structure DatE (w:World) (x:EP):Prop where
 bat:BAt w x.p x.m.it.data.length x.m.it.data
 le:x.m.it.data.length≤x.c
 mx:x.c≤maxLen
theorem DatE.kept {S:Nat → Prop} {w w':World} {x:EP} (h:DatE w x) (hk:Kept S w w') (hn:0 < x.m.it.data.length → ∀ a,x.p=some a → ¬ S a.block):DatE w' x:=⟨h.bat.kept hk hn,h.le,h.mx⟩
theorem DatE.below {w w':World} {x:EP} (h:DatE w x) (hb:Below w.heap.size w w'):DatE w' x:=⟨h.bat.below hb,h.le,h.mx⟩
def flatEn (xs:List EP):List Value:=xs.flatMap fun x => x.cs.toList
theorem flatEn_cons (x:EP) (xs:List EP):flatEn (x :: xs)=x.cs.toList++flatEn xs:=rfl
theorem flatEn_length (xs:List EP):(flatEn xs).length=4 * xs.length:=by
 induction xs with
 | nil => rfl
 | cons x xs ih => rw [flatEn_cons,List.length_append,ih,EP.cs_list,List.length_cons];simp only [List.length_cons,List.length_nil];omega
theorem flatEn_snoc (xs:List EP) (x:EP):flatEn (xs++[x])=flatEn xs++x.cs.toList:=by simp [flatEn]
theorem flatEn_app (a b:List EP):flatEn (a++b)=flatEn a++flatEn b:=by simp [flatEn]
theorem flatEn_get (xs:List EP):∀ i,i < xs.length → ∀ j,j < 4 → (flatEn xs)[4 * i+j]? = (xs.getD i zeroEn).cs[j]?:=by
 induction xs with
 | nil => intro i h;simp at h
 | cons x xs ih =>
   intro i h j hj;rw [flatEn_cons];have hl:x.cs.toList.length=4:=rfl
   cases i with
   | zero => rw [List.getElem?_append_left (by omega),show 4 * 0+j=j by omega,Array.getElem?_toList];rfl
   | succ i =>
     rw [List.getElem?_append_right (by omega),hl,show 4 * (i+1)+j - 4=4 * i+j by omega,ih i (by simpa using h) j hj]
     rfl
theorem flatEn_one (xs:List EP):∀ u ∈ flatEn xs,u.oneCell'=true:=by
 intro u hu;obtain ⟨x,_,hr⟩:=List.mem_flatMap.1 hu;rw [EP.cs_list] at hr;simp only [List.mem_cons,List.not_mem_nil,or_false] at hr;rcases hr with rfl | rfl | rfl | rfl<;>rfl
def EntsAt (w:World) (p:Option Addr) (n:Nat) (xs:List EP):Prop:=
 xs.length=n∧(∀ x ∈ xs,DatE w x)∧(0 < n → ∃ b o,p=some ⟨b,o,none⟩∧b < w.heap.size ∧ ∀ i,i < n → ∀ j,j < 4 → w.cell? ⟨b,o+4 * i+j,none⟩=(xs.getD i zeroEn).cs[j]?)
theorem EntsAt.below {w w':World} {p:Option Addr} {n:Nat} {xs:List EP} (h:EntsAt w p n xs) (hb:Below w.heap.size w w'):EntsAt w' p n xs:=by
 refine ⟨h.1,fun x hx => (h.2.1 x hx).below hb,fun h0 => ?_⟩
 obtain ⟨b,o,rfl,hbw,hc⟩:=h.2.2 h0;refine ⟨b,o,rfl,Nat.lt_of_lt_of_le hbw hb.size,fun i hi j hj => ?_⟩
 rw [hb.cell (p:=⟨b,o+4 * i+j,none⟩) hbw];exact hc i hi j hj
theorem ents_nil (w:World) (p:Option Addr):EntsAt w p 0 []:=⟨rfl,fun x hx => by simp at hx,fun h => by omega⟩
theorem ents_own {w:World} {base:Nat} {e:TypeId} {v:Value} {xs:List EP} (h:w.ownsRow base e 4 v xs.length (flatEn xs)) (hx:∀ x ∈ xs,DatE w x):∃ p c,v=.slice p xs.length c∧xs.length≤c∧c≤maxLen∧EntsAt w p xs.length xs:=by
 rcases h.2 with ⟨rfl,h0⟩ | ⟨g,cap,cur,rfl,hb,hg,hn,hc,hs,ht⟩
 ·exact ⟨none,0,by rw [h0],by omega,by decide,rfl,hx,fun h => by omega⟩
 ·refine ⟨some ⟨g,0,none⟩,cap,rfl,hn,hc,rfl,hx,fun h0 => ⟨g,0,rfl,(Array.getElem?_eq_some_iff.1 hg).1,fun i hi j hj => ?_⟩⟩
  have get:∀ j,j < 4 * xs.length → w.cell? ⟨g,j,none⟩=(flatEn xs)[j]?:=fun j hj => by
   unfold World.cell?;rw [hg,← ht,List.getElem?_take,if_pos (by omega)]
   simp
  rw [Nat.zero_add,get _ (by omega)]
  exact flatEn_get xs i hi j hj
def Cells4n (w:World) (b o:Nat) (y:EP):Prop:=
 w.cell? ⟨b,o,none⟩=some (.string (str y.m.it.key))∧w.cell? ⟨b,o+1,none⟩=some (.int .i64 y.m.it.seq)∧w.cell? ⟨b,o+2,none⟩=some (.slice y.p y.m.it.data.length y.c)∧w.cell? ⟨b,o+3,none⟩=some (.int .i64 y.m.run)
theorem Cells4n.below {w w':World} {b o:Nat} {y:EP} (h:Cells4n w b o y) (hb:b < w.heap.size) (hw:Below w.heap.size w w'):Cells4n w' b o y:=by
 unfold Cells4n at h ⊢;simp only [hw.cell (p:=⟨b,_,none⟩) hb];exact h
theorem EntsAt.cells4n {w:World} {p:Option Addr} {n:Nat} {xs:List EP} (h:EntsAt w p n xs) {i:Nat} (hi:i < n):∃ b o,p=some ⟨b,o,none⟩∧b < w.heap.size∧DatE w (xs.getD i zeroEn)∧Cells4n w b (o+i * 4) (xs.getD i zeroEn):=by
 obtain ⟨b,o,rfl,hbw,hc⟩:=h.2.2 (by omega)
 have hb:DatE w (xs.getD i zeroEn):=h.2.1 _ (by
  have hl:i < xs.length:=by rw [h.1];exact hi
  rw [List.getD,List.getElem?_eq_getElem hl]
  exact List.getElem_mem hl)
 rw [Nat.mul_comm i 4];exact ⟨b,o,rfl,hbw,hb,hc i hi 0 (by omega),hc i hi 1 (by omega),hc i hi 2 (by omega),hc i hi 3 (by omega)⟩
theorem getEn_mem (xs:List EP) (k:Nat) (h:k < xs.length):xs.getD k zeroEn ∈ xs:=by
 rw [List.getD,List.getElem?_eq_getElem h];exact List.getElem_mem h
theorem getEn_map (xs:List EP) (k:Nat):(xs.map EP.m).getD k zeroV15=(xs.getD k zeroEn).m:=by
 rw [List.getD,List.getD,List.getElem?_map]
 cases xs[k]?<;>rfl
theorem EntsAt.drop {w:World} {p:Option Addr} {n:Nat} {xs:List EP} (h:EntsAt w p n xs) {k:Nat} (hk:k≤n):EntsAt w p k (xs.take k):=by
 refine ⟨by rw [List.length_take,h.1];omega,fun x hx => h.2.1 x (List.mem_of_mem_take hx),fun h0 => ?_⟩
 obtain ⟨b,o,rfl,hb,hc⟩:=h.2.2 (by omega)
 refine ⟨b,o,rfl,hb,fun i hi j hj => ?_⟩
 rw [hc i (by omega) j hj]
 congr 2
 simp [List.getD,hi]
theorem infoEnt:(Try.prog.info? 34).map (fun i => (i.zero,i.size,i.bytes))=some (some (.agg #[.string ⟨#[]⟩,.int .i64 0,.slice none 0 0,.int .i64 0]),4,56):=by kernel_rfl
theorem append_ent {w:World} {ops:Array Oper} {rest:List Oper} {o:Oper} {a:Act} {Q:Exit → Act → World → Prop} (hgd:o.guard=none) (s x:Operand)
 (ho:o.op=.call { callee:=.builtin .append,args:=#[s,x],argTypes:=#[22,22] })
 (base:Nat) (v:Value) (xs:List EP) (hs:a.eval s=v) (hown:w.ownsRow base 34 4 v xs.length (flatEn xs))
 (b:Nat) (c:Nat) (y:EP) (hx:a.eval x=.slice (some ⟨b,0,none⟩) 1 c) (hb:Blk w b 34 y.cs) (hsum:xs.length≤1000000) (hbase:base≤w.heap.size)
 (h:∀ v' w',w'.ownsRow base 34 4 v' (xs++[y]).length (flatEn (xs++[y])) → w.grownBy w' v.ownBlock → NewOr w v v' → wpList Try.prog ops Q rest (a.put o.dst v') w'):wpList Try.prog ops Q (o :: rest) a w:=by
 obtain ⟨i0,hi,hz0,hz1,hz2⟩:=info_parts infoEnt
 obtain ⟨v',w',hr,h2,h3,h4⟩:=run_append_newS (P:=Try.prog) base 22 o.type 34 i0 _ 4 56 Try.underlying22 hi hz0 hz1 hz2 rfl (by decide) v xs.length (flatEn xs) hown ⟨b,0,none⟩ 1 c y.cs.toList rfl (by
  intro j u hj;rw [WideShapes.add_plain,Nat.zero_add,hb.cell,← Array.getElem?_toList]
  exact hj) (fun u hu => flatEn_one [y] u (by simpa [flatEn] using hu)) (by unfold maxLen;omega) (by omega) hbase
 refine wpList_plain hgd fun K hK => ?_
 unfold Oper.wp;simp [execOp,ho,resolve,invoke,builtin,hs,hx,hr,Result.andThen];rw [← flatEn_snoc,show xs.length+1=(xs++[y]).length by simp] at h2
 exact hK _ _ (h v' w' h2 h3 h4)
def WfE (m:EntV):Prop:=(Lit.int .i64 m.it.seq).wf=true∧(Lit.int .i64 m.run).wf=true
def RoomE (x:EP):Prop:=x.m.it.key.length≤140737488351232∧x.c≤140737488351232
def EP.ip (x:EP):IP:=⟨x.m.it,x.p,x.c⟩
theorem DatE.ip {w:World} {x:EP} (h:DatE w x):DatAt w x.ip:=⟨h.bat,h.le,h.mx⟩
end Go.Proofs.Ytphehianajckaaa.Hea
end
section
namespace Go.Proofs.Ytphehianajckaaa.Hea
open Go.ChangeShapes Go.WideShapes Go.ChangeAt Go.RowKit Base Byt Txt Bk Mem Tre Itm Go.Lib
set_option linter.unusedVariables false
set_option maxRecDepth 100000
abbrev ptrH (g:Nat):Value:=.pointer (some ⟨g,0,none⟩)
def newH:Array Value:=#[.slice none 0 0]
def PushPost15 (At:World → Nat → List EntV → (Nat → Prop) → Prop) (w:World) (g:Nat) (own:Nat → Prop) (L':List EntV) (e:Ending) (w':World):Prop:=
 ∃ own',e=.returned (.tuple #[])∧At w' g L' own'∧(∀ b,own' b → own b ∨ w.heap.size≤b)∧Kept own w w'
def PopPost15 (At:World → Nat → List EntV → (Nat → Prop) → Prop) (w:World) (g:Nat) (own:Nat → Prop) (L:List EntV) (e:Ending) (w':World):Prop:=
 ∃ (x:EP) (L':List EntV) (own':Nat → Prop),e=.returned (.tuple #[.agg x.cs,.bool true])∧L.Perm (x.m :: L')∧Least15 x.m L∧At w' g L' own'∧(∀ b,own' b → own b ∨ w.heap.size≤b)∧Kept own w w'∧DatE w' x
def LeastPost15 (w:World) (L:List EntV) (e:Ending) (w':World):Prop:=
 ∃ x:EP,e=.returned (.tuple #[.agg x.cs,.bool true])∧x.m ∈ L∧Least15 x.m L∧Kept noneB w w'
def NonePost15 (w:World) (e:Ending) (w':World):Prop:=e=.returned (.tuple #[.agg #[.string ⟨#[]⟩,.int .i64 0,.slice none 0 0,.int .i64 0],.bool false])∧Kept noneB w w'
def ValPost15 (w:World) (v:Value) (e:Ending) (w':World):Prop:=e=.returned v∧Kept noneB w w'
structure HeaC (At:World → Nat → List EntV → (Nat → Prop) → Prop):Prop where
 lt:∀ {w g L own},At w g L own → own g ∧ ∀ b,own b → b < w.heap.size
 frame:∀ {w w' g L own S},At w g L own → Kept S w w' → (∀ b,own b → ¬ S b) → At w' g L own
 new:∀ (w:World),At (w.alloc (.cells newH 28)) w.heap.size [] (fun b => b=w.heap.size)
 push:∀ {w g L own} (x:EP),At w g L own → DatE w x → x.m.it.data.length≤140737488351232 → L.length≤100000 → Calls Try.prog 7 #[ptrH g,.agg x.cs] w (PushPost15 At w g own (x.m :: L))
 pop:∀ {w g L own},At w g L own → L.length≤100000 → 0 < L.length → Calls Try.prog 10 #[ptrH g] w (PopPost15 At w g own L)
 popn:∀ {w g own},At w g [] own → Calls Try.prog 10 #[ptrH g] w (NonePost15 w)
 least:∀ {w g L own},At w g L own → L.length≤100000 → 0 < L.length → Calls Try.prog 9 #[ptrH g] w (LeastPost15 w L)
 leastn:∀ {w g own},At w g [] own → Calls Try.prog 9 #[ptrH g] w (NonePost15 w)
 len:∀ {w g L own},At w g L own → L.length≤100000 → Calls Try.prog 13 #[ptrH g] w (ValPost15 w (.int .i64 (L.length:Nat)))
 push0:∀ (w:World) (x:EP),Calls Try.prog 7 #[.pointer none,.agg x.cs] w (ValPost15 w (.tuple #[]))
 pop0:∀ (w:World),Calls Try.prog 10 #[.pointer none] w (NonePost15 w)
 least0:∀ (w:World),Calls Try.prog 9 #[.pointer none] w (NonePost15 w)
 len0:∀ (w:World),Calls Try.prog 13 #[.pointer none] w (ValPost15 w (.int .i64 0))
end Go.Proofs.Ytphehianajckaaa.Hea
end
section
namespace Go.Proofs.Ytphehianajckaaa.Hea
open Tre Itm
set_option linter.unusedVariables false
def ltQ (x y:EP):Bool:=lessE x.m y.m
def atQ (l:List EP) (i:Nat):EP:=l.getD i zeroEn
theorem ltQ_asym {x y:EP} (h:ltQ x y=true):ltQ y x=false:=lessE_asym h
theorem leQ_trans {a b c:EP} (h:ltQ b a=false) (h2:ltQ c b=false):ltQ c a=false:=leE_trans h h2
theorem ltQ_self (a:EP):ltQ a a=false:=lessE_self _
def swapQ (l:List EP) (i k:Nat):List EP:=(l.set i (atQ l k)).set k (atQ l i)
theorem swapQ_length (l:List EP) (i k:Nat):(swapQ l i k).length=l.length:=by simp [swapQ]
theorem setQ_at (l:List EP) (i j:Nat) (x:EP) (hi:i < l.length):atQ (l.set i x) j=if j=i then x else atQ l j:=by
 unfold atQ;rw [List.getD,List.getD,List.getElem?_set]
 by_cases h:i=j
 ·subst h;simp [hi]
 ·rw [if_neg h,if_neg (fun e => h e.symm)]
theorem swapQ_at {l:List EP} {i k:Nat} (hi:i < l.length) (hk:k < l.length) (j:Nat):atQ (swapQ l i k) j=if j=k then atQ l i else if j=i then atQ l k else atQ l j:=by
 unfold swapQ;rw [setQ_at _ _ _ _ (by rw [List.length_set];exact hk),setQ_at _ _ _ _ hi]
theorem atQ_eq {l:List EP} {i:Nat} (hi:i < l.length):atQ l i=l[i]:=by unfold atQ;rw [List.getD,List.getElem?_eq_getElem hi];rfl
theorem swapQ_perm {l:List EP} {i k:Nat} (hi:i < l.length) (hk:k < l.length):(swapQ l i k).Perm l:=by
 unfold swapQ;rw [atQ_eq hi,atQ_eq hk];exact List.set_set_perm _ _
def HeapL (l:List EP):Prop:=∀ i,0 < i → i < l.length → ltQ (atQ l i) (atQ l ((i - 1) / 2))=false
theorem heapL_root {l:List EP} (h:HeapL l):∀ i,i < l.length → ltQ (atQ l i) (atQ l 0)=false:=by
 intro i
 induction i using Nat.strongRecOn with
 | _ i ih =>
   intro hi;rcases Nat.eq_zero_or_pos i with h0 | h0
   ·rw [h0];exact ltQ_self _
   ·exact leQ_trans (ih ((i - 1) / 2) (by omega) (by omega)) (h i h0 hi)
theorem heapL_least {l:List EP} (h:HeapL l) (h0:0 < l.length):Least15 (atQ l 0).m (l.map EP.m):=by
 intro y hy;obtain ⟨z,hz,rfl⟩:=List.mem_map.1 hy;obtain ⟨i,hi,rfl⟩:=List.getElem_of_mem hz;rw [← atQ_eq hi];exact heapL_root h i hi
theorem heapL_nil:HeapL []:=fun i _ h => by simp at h
structure UpL (l:List EP) (i:Nat):Prop where
 lt:i < l.length
 rest:∀ j,0 < j → j < l.length → j≠i → ltQ (atQ l j) (atQ l ((j - 1) / 2))=false
 over:∀ j,0 < j → j < l.length → (j - 1) / 2=i → 0 < i → ltQ (atQ l j) (atQ l ((i - 1) / 2))=false
theorem UpL.start {l:List EP} (h:HeapL l) (x:EP):UpL (l++[x]) l.length where
 lt:=by simp
 rest:=fun j h0 hj hn => by
  rw [List.length_append,List.length_singleton] at hj
  have e:∀ k,k < l.length → atQ (l++[x]) k=atQ l k:=fun k hk => by
   unfold atQ;rw [List.getD,List.getD,List.getElem?_append_left hk]
  rw [e j (by omega),e _ (by omega)]
  exact h j h0 (by omega)
 over:=fun j h0 hj hp hi => by
  rw [List.length_append,List.length_singleton] at hj;omega
theorem UpL.stop {l:List EP} {i:Nat} (h:UpL l i) (hs:i=0 ∨ ltQ (atQ l i) (atQ l ((i - 1) / 2))=false):HeapL l:=fun j h0 hj => by
 by_cases e:j=i
 ·rcases hs with hs | hs
  ·omega
  ·rw [e];exact hs
 ·exact h.rest j h0 hj e
theorem UpL.step {l:List EP} {i:Nat} (h:UpL l i) (h0:0 < i) (hl:ltQ (atQ l i) (atQ l ((i - 1) / 2))=true):UpL (swapQ l i ((i - 1) / 2)) ((i - 1) / 2):=by
 obtain ⟨p,hp⟩:∃ p,(i - 1) / 2=p:=⟨_,rfl⟩;rw [hp] at hl ⊢;have hi:=h.lt;have hpl:p < l.length:=by omega
 have hpi:p < i:=by omega
 refine ⟨by rw [swapQ_length];exact hpl,fun j hj0 hj hn => ?_,fun j hj0 hj hq hq0 => ?_⟩
 ·rw [swapQ_length] at hj
  rw [swapQ_at hi hpl,swapQ_at hi hpl,if_neg hn]
  by_cases e:j=i
  ·subst e
   rw [if_pos rfl,hp,if_pos rfl];exact ltQ_asym hl
  ·rw [if_neg e]
   by_cases e1:(j - 1) / 2=p
   ·rw [if_pos e1]
    have h1:=h.rest j hj0 hj e;rw [e1] at h1;exact leQ_trans (ltQ_asym hl) h1
   ·rw [if_neg e1]
    by_cases e2:(j - 1) / 2=i
    ·rw [if_pos e2]
     have h1:=h.over j hj0 hj e2 h0;rw [hp] at h1;exact h1
    ·rw [if_neg e2]
     exact h.rest j hj0 hj e
 ·rw [swapQ_length] at hj
  have hpp:ltQ (atQ l p) (atQ l ((p - 1) / 2))=false:=h.rest p hq0 hpl (by omega)
  rw [swapQ_at hi hpl,swapQ_at hi hpl,if_neg (show ¬ j=p by omega),if_neg (show ¬ (p - 1) / 2=p by omega),if_neg (show ¬ (p - 1) / 2=i by omega)]
  by_cases e:j=i
  ·rw [if_pos e]
   exact hpp
  ·rw [if_neg e]
   have h1:=h.rest j hj0 hj e;rw [hq] at h1;exact leQ_trans hpp h1
structure DnL (l:List EP) (i:Nat):Prop where
 rest:∀ j,0 < j → j < l.length → (j - 1) / 2≠i → ltQ (atQ l j) (atQ l ((j - 1) / 2))=false
 over:∀ j,0 < j → j < l.length → (j - 1) / 2=i → 0 < i → ltQ (atQ l j) (atQ l ((i - 1) / 2))=false
theorem DnL.stop {l:List EP} {i:Nat} (h:DnL l i) (hs:∀ j,0 < j → j < l.length → (j - 1) / 2=i → ltQ (atQ l j) (atQ l i)=false):HeapL l:=fun j h0 hj => by
 by_cases e:(j - 1) / 2=i
 ·rw [e];exact hs j h0 hj e
 ·exact h.rest j h0 hj e
theorem DnL.step {l:List EP} {i c:Nat} (h:DnL l i) (h0:0 < c) (hc:c < l.length) (hp:(c - 1) / 2=i) (hl:ltQ (atQ l c) (atQ l i)=true) (hm:∀ j,0 < j → j < l.length → (j - 1) / 2=i → ltQ (atQ l j) (atQ l c)=false):DnL (swapQ l i c) c:=by
 have hi:i < l.length:=by omega
 have hic:i < c:=by omega
 refine ⟨fun j hj0 hj hn => ?_,fun j hj0 hj hq hq0 => ?_⟩
 ·rw [swapQ_length] at hj
  rw [swapQ_at hi hc,swapQ_at hi hc,if_neg hn]
  by_cases e:j=c
  ·rw [if_pos e,if_pos (by rw [e];exact hp)]
   exact ltQ_asym hl
  ·rw [if_neg e]
   by_cases e1:j=i
   ·rw [if_pos e1,if_neg (show ¬ (j - 1) / 2=i by omega),e1]
    exact h.over c h0 hc hp (by omega)
   ·rw [if_neg e1]
    by_cases e2:(j - 1) / 2=i
    ·rw [if_pos e2]
     exact hm j hj0 hj e2
    ·rw [if_neg e2]
     exact h.rest j hj0 hj e2
 ·rw [swapQ_length] at hj
  rw [swapQ_at hi hc,swapQ_at hi hc,if_neg (show ¬ j=c by omega),if_neg (show ¬ j=i by omega),hp,if_neg (show ¬ i=c by omega),if_pos rfl]
  have h1:=h.rest j hj0 hj (by omega)
  rw [hq] at h1;exact h1
theorem DnL.start {l:List EP} (h:HeapL l) (h0:0 < l.length):DnL ((l.set 0 (atQ l (l.length - 1))).take (l.length - 1)) 0 where
 rest:=fun j hj0 hj hn => by
  rw [List.length_take,List.length_set] at hj
  have e:∀ k,0 < k → k < l.length - 1 → atQ ((l.set 0 (atQ l (l.length - 1))).take (l.length - 1)) k=atQ l k:=fun k hk hkl => by
   have h1:atQ ((l.set 0 (atQ l (l.length - 1))).take (l.length - 1)) k=atQ (l.set 0 (atQ l (l.length - 1))) k:=by
    simp only [atQ,List.getD_eq_getElem?_getD,List.getElem?_take,if_pos hkl]
   rw [h1,setQ_at _ _ _ _ h0,if_neg (by omega)]
  rw [e j hj0 (by omega),e _ (by omega) (by omega)]
  exact h j hj0 (by omega)
 over:=fun j _ _ _ hi => absurd hi (by omega)
theorem pop_permQ {l:List EP} (h0:0 < l.length):l.Perm (atQ l 0 :: (l.set 0 (atQ l (l.length - 1))).take (l.length - 1)):=by
 cases l with
 | nil => simp at h0
 | cons a t =>
   have e0:atQ (a :: t) 0=a:=rfl;rw [e0];refine List.Perm.cons a ?_
   rcases List.eq_nil_or_concat t with rfl | ⟨s,b,rfl⟩
   ·simp
   ·have e1:atQ (a :: (s.concat b)) ((a :: s.concat b).length - 1)=b:=by
     unfold atQ;simp [List.getD]
    rw [e1];simp only [List.concat_eq_append,List.set_cons_zero,List.length_cons,List.length_append,List.length_nil,Nat.add_sub_cancel];have e2:(b :: (s++[b])).take (s.length+(0+1))=b :: s:=by simp
    rw [e2];exact List.perm_append_comm (l₁:=s) (l₂:=[b])
end Go.Proofs.Ytphehianajckaaa.Hea
end
section
namespace Go.Proofs.Ytphehianajckaaa.Tre
open Go.ChangeShapes Go.WideShapes Go.ChangeAt Go.RowKit Base Byt Txt Bk Mem Go.Lib
set_option linter.unusedVariables false
set_option maxRecDepth 100000
structure NP where
 m:NodeV
 p:Option Addr
 c:Nat
def zeroQ:NP:=⟨zeroN,none,0⟩
def nodC (m:NodeV) (p:Option Addr) (c:Nat):Array Value:=#[.string (str m.path),.string (str m.target),.string (str m.leader),.int .u8 (m.kind.toNat:Int),.int .i64 m.mode,.int .i64 m.uid,.int .i64 m.gid,.int .i64 m.time,.slice p m.body.length c]
def NP.cs (x:NP):Array Value:=nodC x.m x.p x.c
theorem NP.cs_list (x:NP):x.cs.toList=[.string (str x.m.path),.string (str x.m.target),.string (str x.m.leader),.int .u8 (x.m.kind.toNat:Int),.int .i64 x.m.mode,.int .i64 x.m.uid,.int .i64 x.m.gid,.int .i64 x.m.time,.slice x.p x.m.body.length x.c]:=rfl
structure BodAt (w:World) (x:NP):Prop where
 bat:BAt w x.p x.m.body.length x.m.body
 le:x.m.body.length≤x.c
 mx:x.c≤maxLen
theorem BodAt.kept {S:Nat → Prop} {w w':World} {x:NP} (h:BodAt w x) (hk:Kept S w w') (hn:0 < x.m.body.length → ∀ a,x.p=some a → ¬ S a.block):BodAt w' x:=⟨h.bat.kept hk hn,h.le,h.mx⟩
theorem BodAt.below {w w':World} {x:NP} (h:BodAt w x) (hb:Below w.heap.size w w'):BodAt w' x:=⟨h.bat.below hb,h.le,h.mx⟩
def NodesAt (w:World) (p:Option Addr) (n:Nat) (xs:List NP):Prop:=
 xs.length=n∧(∀ x ∈ xs,BodAt w x)∧(0 < n → ∃ b o,p=some ⟨b,o,none⟩∧b < w.heap.size ∧ ∀ i,i < n → ∀ j,j < 9 → w.cell? ⟨b,o+9 * i+j,none⟩=(xs.getD i zeroQ).cs[j]?)
theorem NodesAt.below {w w':World} {p:Option Addr} {n:Nat} {xs:List NP} (h:NodesAt w p n xs) (hb:Below w.heap.size w w'):NodesAt w' p n xs:=by
 refine ⟨h.1,fun x hx => (h.2.1 x hx).below hb,fun h0 => ?_⟩
 obtain ⟨b,o,rfl,hbw,hc⟩:=h.2.2 h0;refine ⟨b,o,rfl,Nat.lt_of_lt_of_le hbw hb.size,fun i hi j hj => ?_⟩
 rw [hb.cell (p:=⟨b,o+9 * i+j,none⟩) hbw];exact hc i hi j hj
def Cells9 (w:World) (b o:Nat) (y:NP):Prop:=
 w.cell? ⟨b,o,none⟩=some (.string (str y.m.path))∧w.cell? ⟨b,o+1,none⟩=some (.string (str y.m.target))∧w.cell? ⟨b,o+2,none⟩=some (.string (str y.m.leader))∧w.cell? ⟨b,o+3,none⟩=some (.int .u8 (y.m.kind.toNat:Int))∧w.cell? ⟨b,o+4,none⟩=some (.int .i64 y.m.mode) ∧
 w.cell? ⟨b,o+5,none⟩=some (.int .i64 y.m.uid)∧w.cell? ⟨b,o+6,none⟩=some (.int .i64 y.m.gid)∧w.cell? ⟨b,o+7,none⟩=some (.int .i64 y.m.time)∧w.cell? ⟨b,o+8,none⟩=some (.slice y.p y.m.body.length y.c)
theorem Cells9.below {w w':World} {b o:Nat} {y:NP} (h:Cells9 w b o y) (hb:b < w.heap.size) (hw:Below w.heap.size w w'):Cells9 w' b o y:=by
 unfold Cells9 at h ⊢;simp only [hw.cell (p:=⟨b,_,none⟩) hb];exact h
theorem NodesAt.drop {w:World} {p:Option Addr} {n:Nat} {xs:List NP} (h:NodesAt w p n xs) {k:Nat} (hk:k≤n):NodesAt w p k (xs.take k):=by
 refine ⟨by rw [List.length_take,h.1];omega,fun x hx => h.2.1 x (List.mem_of_mem_take hx),fun h0 => ?_⟩
 obtain ⟨b,o,rfl,hb,hc⟩:=h.2.2 (by omega)
 refine ⟨b,o,rfl,hb,fun i hi j hj => ?_⟩
 rw [hc i (by omega) j hj]
 congr 2
 simp [List.getD,hi]
end Go.Proofs.Ytphehianajckaaa.Tre
end
section
namespace Go.Proofs.Ytphehianajckaaa.Tre
open Go.ChangeShapes Go.WideShapes Go.ChangeAt Go.RowKit Base Byt Txt Bk Mem Go.Lib
set_option linter.unusedVariables false
set_option maxRecDepth 100000
theorem blk_setIf {W:World} {b:Nat} {t:TypeId} {cs:Array Value} (h:Blk W b t cs) (i:Nat) (v:Value):Blk (W.setCell ⟨b,i,none⟩ v) b t (cs.setIfInBounds i v):=by
 obtain ⟨hl,he⟩:=Array.getElem?_eq_some_iff.1 h;unfold Blk World.setCell;refine Array.getElem?_eq_some_iff.2 ⟨by simpa using hl,?_⟩
 rw [Array.getElem_modify,if_pos rfl,he];rfl
def setN (A:Array Value) (b:Nat):List Value → Array Value
 | [] => A
 | v :: vs => setN (A.setIfInBounds b v) (b+1) vs
theorem setN_size (vs:List Value):∀ (A:Array Value) (b:Nat),(setN A b vs).size=A.size:=by
 induction vs with
 | nil => intro A b;rfl
 | cons v vs ih => intro A b;rw [setN,ih];simp
theorem setN_get (vs:List Value):∀ (A:Array Value) (b m:Nat),b+vs.length≤A.size → (setN A b vs)[m]? = if b≤m∧m < b+vs.length then vs[m - b]? else A[m]?:=by
 induction vs with
 | nil => intro A b m _;rw [setN,if_neg (by simp only [List.length_nil];omega)]
 | cons v vs ih =>
   intro A b m h;rw [List.length_cons] at h;rw [setN,ih _ _ _ (by simp;omega),List.length_cons,Array.getElem?_setIfInBounds]
   by_cases h1:b=m
   ·subst h1
    rw [if_neg (by omega),if_pos rfl,if_pos (by omega),if_pos (by omega)]
    simp
   ·rw [if_neg h1]
    by_cases h2:b+1≤m∧m < b+1+vs.length
    ·rw [if_pos h2,if_pos (by omega),show m - b=(m - (b+1))+1 by omega,List.getElem?_cons_succ]
    ·rw [if_neg h2,if_neg (by omega)]
end Go.Proofs.Ytphehianajckaaa.Tre
end
section
namespace Go.Proofs.Ytphehianajckaaa.Hea
open Go.ChangeShapes Go.WideShapes Go.ChangeAt Go.RowKit Base Byt Txt Bk Mem Tre Itm Go.Lib
set_option linter.unusedVariables false
set_option maxRecDepth 100000
def Rn (W:World) (g:Nat) (ys:List EP):Prop:=∃ cur,Blk W g 34 cur∧4 * ys.length≤cur.size ∧ ∀ i,i < ys.length → ∀ j,j < 4 → cur[4 * i+j]? = (ys.getD i zeroEn).cs[j]?
theorem Rn.cells4n {W:World} {g:Nat} {ys:List EP} (h:Rn W g ys) {k:Nat} (hk:k < ys.length):Cells4n W g (k * 4) (ys.getD k zeroEn):=by
 obtain ⟨cur,hb,_,hc⟩:=h
 have key:∀ j,j < 4 → W.cell? ⟨g,k * 4+j,none⟩=(ys.getD k zeroEn).cs[j]?:=fun j hj => by
  rw [hb.cell,Nat.mul_comm,hc k hk j hj]
 exact ⟨key 0 (by omega),key 1 (by omega),key 2 (by omega),key 3 (by omega)⟩
theorem getSetEn (ys:List EP) (k i:Nat) (y:EP) (hk:k < ys.length):(ys.set k y).getD i zeroEn=if i=k then y else ys.getD i zeroEn:=by
 rw [List.getD,List.getD,List.getElem?_set]
 by_cases h:k=i
 ·subst h
  simp [hk]
 ·rw [if_neg h,if_neg (fun e => h e.symm)]
theorem Rn.ents {W:World} {g:Nat} {ys:List EP} (h:Rn W g ys) (hb:∀ y ∈ ys,DatE W y):EntsAt W (some ⟨g,0,none⟩) ys.length ys:=by
 obtain ⟨cur,hB,_,hc⟩:=h;exact ⟨rfl,hb,fun _ => ⟨g,0,rfl,hB.lt,fun i hi j hj => by rw [Nat.zero_add,hB.cell,hc i hi j hj]⟩⟩
def put4n (W:World) (g o:Nat) (y:EP):World:=(((W.setCell ⟨g,o,none⟩ (.string (str y.m.it.key))).setCell ⟨g,o+1,none⟩ (.int .i64 y.m.it.seq)).setCell ⟨g,o+2,none⟩ (.slice y.p y.m.it.data.length y.c)).setCell ⟨g,o+3,none⟩ (.int .i64 y.m.run)
theorem put4n_kept {W:World} {S:Nat → Prop} {g o:Nat} (hg:S g) (y:EP):Kept S W (put4n W g o y):=
 ((((Kept.refl S W).setCell (a:=⟨g,o,none⟩) (.inr hg) _).setCell (a:=⟨g,o+1,none⟩) (.inr hg) _).setCell (a:=⟨g,o+2,none⟩) (.inr hg) _).setCell (a:=⟨g,o+3,none⟩) (.inr hg) _
theorem rn_own {w':World} {B:Nat} {v:Value} {ys:List EP} (h:w'.ownsRow B 34 4 v ys.length (flatEn ys)) (h0:0 < ys.length):∃ g c,v=.slice (some ⟨g,0,none⟩) ys.length c∧B≤g∧ys.length≤c∧c≤maxLen∧Rn w' g ys:=by
 rcases h.2 with ⟨_,h1⟩ | ⟨g,cap,cur,h1,hb,hg,h2,h3,h4,h5⟩
 ·omega
 ·have hsz:4 * ys.length≤cur.size:=by
   have h6:=congrArg List.length h5;rw [List.length_take,flatEn_length] at h6;have:cur.toList.length=cur.size:=rfl;omega
  refine ⟨g,cap,h1,hb,h2,h3,cur,hg,hsz,fun i hi j hj => ?_⟩
  rw [← flatEn_get ys i hi j hj,← h5,List.getElem?_take,if_pos (by omega)]
  simp
end Go.Proofs.Ytphehianajckaaa.Hea
end
section
namespace Go.Proofs.Ytphehianajckaaa.Hea
open Go.ChangeShapes Go.WideShapes Go.ChangeAt Go.RowKit Base Byt Txt Bk Mem Tre Itm Go.Lib
set_option linter.unusedVariables false
set_option maxRecDepth 100000
theorem run_ents_any {w:World} (ty:TypeId) (base:Nat) (v:Value) (n:Nat) (xs:List EP) (hn:xs.length=n) (hown:w.ownsRow base 34 4 v n (flatEn xs))
 (p:Option Addr) (m c:Nat) (ys:List EP) (hb:EntsAt w p m ys) (hsum:(n+m) * 56≤140737488355328) (hbase:base≤w.heap.size) :
 ∃ v' w',(Builtin.append_ #[22,22] ty #[v,.slice p m c]).run Try.prog w=.ok v' w'∧w'.ownsRow base 34 4 v' (n+m) (flatEn (xs++ys))∧w.grownBy w' v.ownBlock∧NewOr w v v':=by
 obtain ⟨i,hi,hz,hsize,hby⟩:=info_parts infoEnt;have hl:=hb.1;rcases p with _ | ad
 ·have hm:m=0:=by
   rcases Nat.eq_zero_or_pos m with h0 | h0
   ·exact h0
   ·obtain ⟨_,_,he,_⟩:=hb.2.2 h0
    cases he
  subst hm;obtain rfl:ys=[]:=List.eq_nil_of_length_eq_zero hl
  have hrun:(Builtin.append_ #[22,22] ty #[v,.slice none 0 c]).run Try.prog w=.ok v w:=by
   rcases hown.2 with ⟨rfl,rfl⟩ | ⟨g,cap,cur,rfl,_,_,hnc,_⟩
   ·simp [Builtin.append_,run_underlying Try.underlying22,sizeOf,typeInfo,hi,Builtin.lenOf,Builtin.firstCells]
   ·simp [Builtin.append_,run_underlying Try.underlying22,sizeOf,typeInfo,hi,Builtin.lenOf,Builtin.firstCells,hnc,storeCells]
  exact ⟨v,w,hrun,by rw [List.append_nil];exact hown,World.grownBy.refl w _,NewOr.refl w v⟩
 ·obtain ⟨v',w',hr,h2,h3,h4⟩:=run_append_newS (P:=Try.prog) base 22 ty 34 i _ 4 56 Try.underlying22 hi hz hsize hby rfl (by decide) v n (flatEn xs) hown ad m c (flatEn ys) (by rw [flatEn_length,hl];omega) (by
   intro j u hj
   have hjl:j < 4 * m:=by
    have:=(List.getElem?_eq_some_iff.1 hj).1;rw [flatEn_length,hl] at this;exact this
   obtain ⟨b,off,he,_,hc⟩:=hb.2.2 (by omega)
   cases he
   have h1:=hc (j / 4) (by omega) (j % 4) (by omega)
   have h2:=flatEn_get ys (j / 4) (by omega) (j % 4) (by omega)
   rw [show 4 * (j / 4)+j % 4=j by omega] at h2
   rw [WideShapes.add_plain,show off+j=off+4 * (j / 4)+j % 4 by omega,h1,← h2]
   exact hj) (flatEn_one ys) (by unfold maxLen;omega) hsum hbase
  rw [← flatEn_app] at h2;exact ⟨v',w',hr,h2,h3,h4⟩
theorem step_ents {w:World} {ops:Array Oper} {o:Oper} {a:Act} {K0:Act → World → Prop} {Q:Exit → Act → World → Prop} {E:Prop} (hw:Region.wanted o (yielded ops a.tmps)=true) (s x:Operand)
 (ho:o.op=.call { callee:=.builtin .append,args:=#[s,x],argTypes:=#[22,22] })
 (base:Nat) (v:Value) (n:Nat) (xs:List EP) (hn:xs.length=n) (hs:a.eval s=v) (hown:w.ownsRow base 34 4 v n (flatEn xs))
 (p:Option Addr) (m c:Nat) (ys:List EP) (hx:a.eval x=.slice p m c) (hb:EntsAt w p m ys) (hsum:(n+m) * 56≤140737488355328) (hbase:base≤w.heap.size)
 (h:∀ v' w',w'.ownsRow base 34 4 v' (n+m) (flatEn (xs++ys)) → w.grownBy w' v.ownBlock → NewOr w v v' → K0 (a.put o.dst v') w') :
 if Region.wanted o (yielded ops a.tmps)=true then Oper.wp Try.prog o a w K0 Q else E:=by
 rw [if_pos hw];obtain ⟨v',w',hr,h2,h3,h4⟩:=run_ents_any o.type base v n xs hn hown p m c ys hb hsum hbase;exact Lib.wp_append_run w s x _ _ ho v (.slice p m c) hs hx v' w' hr (h v' w' h2 h3 h4)
theorem EntsAt.from_ {w:World} {g o n:Nat} {xs:List EP} (h:EntsAt w (some ⟨g,o,none⟩) n xs) {k:Nat} (hk:k≤n):EntsAt w (some ⟨g,o+k * 4,none⟩) (n - k) (xs.drop k):=by
 refine ⟨by rw [List.length_drop,h.1],fun x hx => h.2.1 x (List.mem_of_mem_drop hx),fun h0 => ?_⟩
 obtain ⟨b,o',he,hb,hc⟩:=h.2.2 (by omega)
 cases he
 refine ⟨g,o+k * 4,rfl,hb,fun i hi j hj => ?_⟩
 rw [show o+k * 4+4 * i+j=o+4 * (k+i)+j by omega,hc (k+i) (by omega) j hj]
 congr 2
 simp [List.getD]
theorem own_form15 {w:World} {base:Nat} {e:TypeId} {size n:Nat} {v:Value} {xs:List Value} (h:w.ownsRow base e size v n xs):∃ p c,v=.slice p n c:=by
 rcases h.2 with ⟨h1,h2⟩ | ⟨g,cap,cur,h1,_⟩
 ·exact ⟨none,0,by rw [h1,h2]⟩
 ·exact ⟨_,cap,h1⟩
theorem EntsAt.none_ {w:World} (p:Option Addr):EntsAt w p 0 []:=ents_nil w p
end Go.Proofs.Ytphehianajckaaa.Hea
end
section
namespace Go.Proofs.Ytphehianajckaaa.Hea
open Go.ChangeShapes Go.WideShapes Go.ChangeAt Go.RowKit Base Byt Txt Bk Mem Tre Itm Go.Lib
set_option linter.unusedVariables false
set_option maxRecDepth 100000
theorem rowE_put {W:World} {B:Nat} {v:Value} {l:List EP} (h:W.ownsRow B 34 4 v l.length (flatEn l)) {gr n c:Nat} (hv:v=.slice (some ⟨gr,0,none⟩) n c) {k:Nat} (hk:k < l.length) (y:EP) :
 (put4n W gr (k * 4) y).ownsRow B 34 4 v (l.set k y).length (flatEn (l.set k y)):=by
 refine ⟨by rw [flatEn_length];omega,?_⟩
 rcases h.2 with ⟨h1,h2⟩ | ⟨g,cap,cur,h1,hB,hg,hn,hc,hs,ht⟩
 ·omega
 ·have hgr:g=gr:=by rw [h1] at hv;cases hv;rfl
  subst hgr;have hb:Blk W g 34 cur:=hg;have hr:=(blk_setIf (blk_setIf (blk_setIf (blk_setIf hb (k * 4) (.string (str y.m.it.key))) (k * 4+1) (.int .i64 y.m.it.seq)) (k * 4+2) (.slice y.p y.m.it.data.length y.c)) (k * 4+3) (.int .i64 y.m.run))
  have e:setN cur (k * 4) y.cs.toList=((((cur.setIfInBounds (k * 4) (.string (str y.m.it.key))).setIfInBounds (k * 4+1) (.int .i64 y.m.it.seq)).setIfInBounds (k * 4+2) (.slice y.p y.m.it.data.length y.c)).setIfInBounds (k * 4+3) (.int .i64 y.m.run)):=by
   rw [EP.cs_list];simp only [setN,Nat.add_assoc,Nat.reduceAdd]
  rw [← e] at hr;have hl:y.cs.toList.length=4:=rfl
  have hsz:4 * l.length≤cur.size:=by
   have h6:=congrArg List.length ht;rw [List.length_take,flatEn_length] at h6;have:cur.toList.length=cur.size:=rfl;omega
  refine .inr ⟨g,cap,setN cur (k * 4) y.cs.toList,by rw [List.length_set];exact h1,hB,hr,by rw [List.length_set];exact hn,hc,by rw [setN_size];exact hs,?_⟩
  apply List.ext_getElem?;intro i;rw [List.length_set]
  by_cases hi:i < 4 * l.length
  ·rw [List.getElem?_take,if_pos (by omega),Array.getElem?_toList,setN_get _ _ _ _ (by rw [hl];omega),hl]
   have h2:=flatEn_get (l.set k y) (i / 4) (by rw [List.length_set];omega) (i % 4) (by omega)
   rw [show 4 * (i / 4)+i % 4=i by omega,getSetEn l k (i / 4) y hk] at h2
   rw [h2]
   by_cases hik:i / 4=k
   ·rw [if_pos hik,if_pos (by omega),← Array.getElem?_toList,show i - k * 4=i % 4 by omega]
   ·rw [if_neg hik,if_neg (by omega)]
    have h3:=flatEn_get l (i / 4) (by omega) (i % 4) (by omega)
    rw [show 4 * (i / 4)+i % 4=i by omega] at h3
    rw [← h3,← ht,List.getElem?_take,if_pos (by omega),Array.getElem?_toList]
  ·have h4:(flatEn (l.set k y)).length≤i:=by rw [flatEn_length,List.length_set];omega
   rw [List.getElem?_eq_none h4,List.getElem?_take,if_neg (by omega)]
theorem rowE_rn {W:World} {B:Nat} {v:Value} {l:List EP} (h:W.ownsRow B 34 4 v l.length (flatEn l)) (h0:0 < l.length):∃ g c,v=.slice (some ⟨g,0,none⟩) l.length c∧l.length≤c∧c≤maxLen∧Rn W g l∧v.ownBlock=some g:=by
 obtain ⟨g,c,hv,_,h1,h2,h3⟩:=rn_own h h0;exact ⟨g,c,hv,h1,h2,h3,by rw [hv];rfl⟩
structure DatU (w:World) (x:EP):Prop where
 dat:DatE w x
 room:x.m.it.data.length≤140737488351232
 blk:0 < x.m.it.data.length → ∀ a,x.p=some a → ∃ cur,Blk w a.block 5 cur
theorem DatU.kept {S:Nat → Prop} {w w':World} {x:EP} (h:DatU w x) (hk:Kept S w w') (hn:0 < x.m.it.data.length → ∀ a,x.p=some a → ¬ S a.block):DatU w' x:=
 ⟨h.dat.kept hk hn,h.room,fun h0 a ha => by
  obtain ⟨cur,hc⟩:=h.blk h0 a ha
  exact ⟨cur,hc.keptS hk (hn h0 a ha)⟩⟩
theorem DatU.none_ {w w':World} {x:EP} (h:DatU w x) (hk:Kept noneB w w'):DatU w' x:=h.kept hk (fun _ _ _ h => h)
theorem blk_apart {w:World} {b b':Nat} {t t':TypeId} {cs cs':Array Value} (h:Blk w b t cs) (h':Blk w b' t' cs') (hn:t≠t'):b≠b':=fun e => by
 subst e;unfold Blk at h h';rw [h] at h'
 injection h' with h'
 injection h' with _ h'
 exact hn h'
structure HpD (w:World) (g:Nat) (v:Value) (l:List EP):Prop where
 obj:Blk w g 28 #[v]
 row:w.ownsRow 0 34 4 v l.length (flatEn l)
 dat:∀ x ∈ l,DatU w x
def datB (l:List EP) (b:Nat):Prop:=∃ x ∈ l,0 < x.m.it.data.length ∧ ∃ a,x.p=some a∧a.block=b
def hpOwn (g:Nat) (v:Value) (l:List EP) (b:Nat):Prop:=b=g ∨ v.ownBlock=some b ∨ datB l b
def HpAt (w:World) (g:Nat) (L:List EntV) (own:Nat → Prop):Prop:=∃ v l,HpD w g v l∧HeapL l∧(l.map EP.m).Perm L ∧ ∀ b,own b ↔ hpOwn g v l b
def rowS (g:Nat) (v:Value) (b:Nat):Prop:=b=g ∨ v.ownBlock=some b
section
variable {w w':World} {g:Nat} {v:Value} {l:List EP} {L:List EntV} {own:Nat → Prop}
theorem row_blk {B:Nat} (h:w.ownsRow B 34 4 v l.length (flatEn l)) {b:Nat} (hb:v.ownBlock=some b):∃ cur,Blk w b 34 cur:=by
 rcases h.2 with ⟨h1,_⟩ | ⟨g',cap,cur,h1,_,hg,_⟩
 ·rw [h1] at hb;cases hb
 ·have hgg:g'=b:=by rw [h1] at hb;simpa [Value.ownBlock] using hb
  subst hgg;exact ⟨cur,hg⟩
theorem HpD.ne (h:HpD w g v l):v.ownBlock≠some g:=fun e => by
 obtain ⟨cur,hc⟩:=row_blk h.row e;exact blk_apart hc h.obj (by decide) rfl
theorem HpD.far (h:HpD w g v l) {b:Nat} (hb:datB l b):¬ rowS g v b:=fun hr => by
 obtain ⟨x,hx,h0,a,ha,rfl⟩:=hb;obtain ⟨cur,hc⟩:=(h.dat x hx).blk h0 a ha;rcases hr with e | e
 ·exact blk_apart hc h.obj (by decide) e
 ·obtain ⟨cur',hc'⟩:=row_blk h.row e
  exact blk_apart hc hc' (by decide) rfl
theorem HpD.off (h:HpD w g v l) {x:EP} (hx:x ∈ l) (h0:0 < x.m.it.data.length) {a:Addr} (ha:x.p=some a):¬ rowS g v a.block:=h.far ⟨x,hx,h0,a,ha,rfl⟩
theorem HpD.keep {S:Nat → Prop} (h:HpD w g v l) (hk:Kept S w w') (hn:∀ b,hpOwn g v l b → ¬ S b):HpD w' g v l:=
 ⟨h.obj.keptS hk (hn _ (.inl rfl)),ownsRow_kept h.row hk (fun b hb => hn b (.inr (.inl hb))),fun x hx => (h.dat x hx).kept hk (fun h0 a ha => hn _ (.inr (.inr ⟨x,hx,h0,a,ha,rfl⟩)))⟩
theorem HpD.none_ (h:HpD w g v l) (hk:Kept noneB w w'):HpD w' g v l:=h.keep hk (fun _ _ h => h)
theorem HpD.lt (h:HpD w g v l):∀ b,hpOwn g v l b → b < w.heap.size:=by
 rintro b (rfl | hb | ⟨x,hx,h0,a,ha,rfl⟩)
 ·exact h.obj.lt
 ·exact (h.row.lt b hb).2
 ·obtain ⟨cur,hc⟩:=(h.dat x hx).blk h0 a ha
  exact hc.lt
theorem hpAt_lt (h:HpAt w g L own):own g ∧ ∀ b,own b → b < w.heap.size:=by
 obtain ⟨v,l,h,_,_,ho⟩:=h;exact ⟨(ho g).2 (.inl rfl),fun b hb => h.lt b ((ho b).1 hb)⟩
theorem hpAt_frame {S:Nat → Prop} (h:HpAt w g L own) (hk:Kept S w w') (hn:∀ b,own b → ¬ S b):HpAt w' g L own:=by
 obtain ⟨v,l,h,h1,h2,ho⟩:=h;exact ⟨v,l,h.keep hk (fun b hb => hn b ((ho b).2 hb)),h1,h2,ho⟩
theorem hpAt_new (w:World):HpAt (w.alloc (.cells newH 28)) w.heap.size [] (fun b => b=w.heap.size):=
 ⟨.slice none 0 0,[],⟨Blk.new w _ _,World.ownsRow_nil _ _ _ _,fun x hx => by simp at hx⟩,heapL_nil,List.Perm.refl _,fun b => ⟨fun h => .inl h,fun h => by
  rcases h with h | h | ⟨x,hx,_⟩
  ·exact h
  ·cases h
  ·simp at hx⟩⟩
theorem datB_perm {l l':List EP} (hp:l.Perm l') {b:Nat} (h:datB l b):datB l' b:=by
 obtain ⟨x,hx,h1⟩:=h;exact ⟨x,hp.mem_iff.1 hx,h1⟩
theorem HpD.swap {gr n c:Nat} (h:HpD w g (.slice (some ⟨gr,0,none⟩) n c) l) {i k:Nat} (hi:i < l.length) (hk:k < l.length) :
 HpD (put4n (put4n w gr (i * 4) (atQ l k)) gr (k * 4) (atQ l i)) g (.slice (some ⟨gr,0,none⟩) n c) (swapQ l i k)∧Kept (oneB gr) w (put4n (put4n w gr (i * 4) (atQ l k)) gr (k * 4) (atQ l i)):=by
 have hk2:Kept (oneB gr) w (put4n (put4n w gr (i * 4) (atQ l k)) gr (k * 4) (atQ l i)):=(put4n_kept (S:=oneB gr) rfl _).trans (put4n_kept (S:=oneB gr) rfl _);have hne:g≠gr:=fun e => h.ne (by rw [← e];rfl)
 refine ⟨⟨h.obj.keptS hk2 hne,?_,fun x hx => ?_⟩,hk2⟩
 ·have h1:=rowE_put h.row rfl hi (atQ l k)
  exact rowE_put h1 rfl (show k < (l.set i (atQ l k)).length by rw [List.length_set];exact hk) (atQ l i)
 ·have hx2:=(swapQ_perm hi hk).mem_iff.1 hx
  exact (h.dat x hx2).kept hk2 (fun h0 a ha e => h.off hx2 h0 ha (.inr (by rw [show a.block=gr from e];rfl)))
end
end Go.Proofs.Ytphehianajckaaa.Hea
end
section
namespace Go.Proofs.Ytphehianajckaaa.Mem
open Go.ChangeShapes Go.WideShapes Go.ChangeAt Go.RowKit Go.Deep Base Byt Txt Bk Hp Head Rec Go.Lib
set_option linter.unusedVariables false
set_option maxRecDepth 100000
theorem cellsY:Try.prog.cellsOf 30=1:=by kernel_rfl
instance:Inhabited MP:=⟨zeroP⟩
section
variable {H:Type} {enc:TypeId × Value → H} {w:World} {base:Nat} {held:Bool}
end
end Go.Proofs.Ytphehianajckaaa.Mem
end
section
namespace Go.Proofs.Ytphehianajckaaa.Itm
open Go.ChangeShapes Go.WideShapes Go.ChangeAt Go.RowKit Go.Deep Base Byt Txt Bk Hp Head Rec Mem Tre Go.Lib
set_option linter.unusedVariables false
set_option maxRecDepth 100000
theorem list3 {α:Type} (l:List α) (h:l.length=3):∃ a b c,l=[a,b,c]:=by
 match l,h with
 | [a,b,c],_ => exact ⟨a,b,c,rfl⟩
theorem cellsJ3:Try.prog.cellsOf 32=3:=by kernel_rfl
instance:Inhabited IP:=⟨zeroJ⟩
def WfI (m:ItemV):Prop:=(Lit.int .i64 m.seq).wf=true
def RoomI (x:IP):Prop:=x.m.key.length≤140737488351232∧x.c≤140737488351232
section
variable {H:Type} {enc:TypeId × Value → H} {w:World} {base:Nat} {held:Bool}
theorem item_cells {cs:List Value} {d:DataW H} {ps:List MemPlace} {fuel:Nat} (hw:∀ z ∈ d.weights Try.prog 32,z≤reachBytes)
 (hf:DataW.trod enc Try.prog w base (fun _ => true) held fuel 32 cs=some (d,ps)) :
 ∃ x:IP,cs=x.cs.toList∧DatAt w x∧WfI x.m∧RoomI x:=by
 obtain ⟨xs,n,rfl,hx,hl,hxl,hall⟩:=DataW.trod_struct Try.underlying32 hf;rw [cellsJ3] at hl;obtain ⟨a,b,c,rfl⟩:=list3 cs hl;obtain ⟨x0,x1,x4,rfl⟩:=list3 xs (by simpa using hxl)
 have h0:=hall 0 _ rfl;have h1:=hall 1 _ rfl;have h4:=hall 2 _ rfl;simp only [List.getElem_toArray,List.getElem_cons_zero,List.getElem_cons_succ,cellsS,cellsI,cellsY,List.drop_zero,List.drop_succ_cons,List.take_succ_cons,List.take_zero,List.getElem?_cons_zero,List.getElem?_cons_succ] at h0 h1 h4;obtain ⟨s0,e0,rfl,z0⟩:=DataW.trod_string Try.underlying9 h0;obtain ⟨m0,f0,rfl,q0⟩:=DataW.trod_int Try.underlying3 h1;simp only [List.cons.injEq,and_true] at e0 f0;subst e0 f0;simp only [Prod.mk.injEq,List.map_cons,List.map_nil] at hx;obtain ⟨hd,_⟩:=hx
 have ew:d.weights Try.prog 32=DataW.weightsEach Try.prog [9,3,30] [.lit (.string s0.data.toList),.lit (.int .i64 m0),x4.1]:=by
  rw [hd];simp only [DataW.weights,Try.underlying32];rfl
 have w0:=hw s0.data.toList.length (by rw [ew];simp [DataW.weightsEach,DataW.weights])
 have w4:∀ z ∈ x4.1.weights Try.prog 30,z≤reachBytes:=fun z hz => hw z (by
  rw [ew];simp only [DataW.weightsEach,List.mem_append]
  exact .inr (.inr (.inl hz)))
 simp only [reachBytes] at w0;rcases open_ints Try.underlying30 Try.underlying5 cellsU h4 with ⟨hcs,_⟩ | ⟨x,l,cp,zs,hcs,_,hlc,hmx,hz,hxx,hcell,hwz⟩
 ·simp only [List.cons.injEq,and_true] at hcs
  subst hcs;refine ⟨⟨⟨s0.data.toList,m0,[]⟩,none,0⟩,?_,⟨fun h0 => by simp at h0,Nat.le_refl _,by show (0:Nat)≤maxLen;decide⟩,q0,by omega,by show 0≤_;omega⟩
  rw [IP.cs_list,str_of];rfl
 ·simp only [List.cons.injEq,and_true] at hcs
  subst hcs;simp only [if_true] at hz;have hrow:IsRow .u8 w (some x) l cp zs:=.inr ⟨_,rfl,hlc,hmx,hz,fun i hi => hcell i hi,hwz⟩
  obtain ⟨b1,b2,b3,b4⟩:=bat_of_row hrow
  have wc:=w4 (cp * 1) (by
   rw [hxx];simp only [DataW.weights,Try.underlying30,List.mem_cons,List.mem_append,lits,List.length_map,List.length_take,List.length_drop];refine .inl ?_
   rw [(by kernel_rfl:Try.prog.bytesOf 5=1)]
   congr 1
   omega)
  simp only [reachBytes] at wc;refine ⟨⟨⟨s0.data.toList,m0,bytesOf (zs.take l)⟩,some x,cp⟩,?_,⟨?_,?_,hmx⟩,q0,by omega,by show cp≤_;omega⟩
  ·rw [IP.cs_list,str_of]
   simp only [b2]
  ·show BAt w (some x) (bytesOf (zs.take l)).length (bytesOf (zs.take l))
   rw [b2];exact b1
  ·show (bytesOf (zs.take l)).length≤cp
   rw [b2];exact hlc
end
end Go.Proofs.Ytphehianajckaaa.Itm
end
section
namespace Go.Proofs.Ytphehianajckaaa.Mem
open Go.ChangeShapes Go.WideShapes Go.ChangeAt Go.RowKit Base Byt Txt Bk Go.Lib
set_option linter.unusedVariables false
set_option maxRecDepth 100000
theorem bat_lt {w:World} {p:Option Addr} {m:Nat} {bs:List UInt8} (h:BAt w p m bs) (h0:0 < m) {y:Addr} (hy:p=some y):y.block < w.heap.size:=by
 obtain ⟨b,o,he,hb,_⟩:=h.cell h0;rw [hy] at he
 cases he
 exact hb
def Cells8 (w:World) (b o:Nat) (y:MP):Prop:=
 w.cell? ⟨b,o,none⟩=some (.string (str y.m.path))∧w.cell? ⟨b,o+1,none⟩=some (.string (str y.m.target))∧w.cell? ⟨b,o+2,none⟩=some (.int .u8 (y.m.kind.toNat:Int))∧w.cell? ⟨b,o+3,none⟩=some (.int .i64 y.m.mode) ∧
 w.cell? ⟨b,o+4,none⟩=some (.int .i64 y.m.uid)∧w.cell? ⟨b,o+5,none⟩=some (.int .i64 y.m.gid)∧w.cell? ⟨b,o+6,none⟩=some (.int .i64 y.m.time)∧w.cell? ⟨b,o+7,none⟩=some (.slice y.p y.m.body.length y.c)
theorem Cells8.below {w w':World} {b o:Nat} {y:MP} (h:Cells8 w b o y) (hb:b < w.heap.size) (hw:Below w.heap.size w w'):Cells8 w' b o y:=by
 unfold Cells8 at h ⊢;simp only [hw.cell (p:=⟨b,_,none⟩) hb];exact h
end Go.Proofs.Ytphehianajckaaa.Mem
end
section
namespace Go.Proofs.Ytphehianajckaaa.Hea
open Go.ChangeShapes Go.WideShapes Go.ChangeAt Go.RowKit Go.Deep Base Byt Txt Bk Hp Head Rec Mem Tre Itm Go.Lib
set_option linter.unusedVariables false
set_option maxRecDepth 100000
instance:Inhabited EP:=⟨zeroEn⟩
theorem cellsE4:Try.prog.cellsOf 34=4:=by kernel_rfl
section
variable {H:Type} {enc:TypeId × Value → H} {w:World} {base:Nat} {held:Bool}
theorem list4 {α:Type} (l:List α) (h:l.length=4):∃ a b c d,l=[a,b,c,d]:=by
 match l,h with
 | [a,b,c,d],_ => exact ⟨a,b,c,d,rfl⟩
theorem list2n {α:Type} (l:List α) (h:l.length=2):∃ a b,l=[a,b]:=by
 match l,h with
 | [a,b],_ => exact ⟨a,b,rfl⟩
theorem ent_cells {cs:List Value} {d:DataW H} {ps:List MemPlace} {fuel:Nat} (hw:∀ z ∈ d.weights Try.prog 34,z≤reachBytes)
 (hf:DataW.trod enc Try.prog w base (fun _ => true) held fuel 34 cs=some (d,ps)) :
 ∃ x:EP,cs=x.cs.toList∧DatE w x∧WfE x.m∧RoomE x:=by
 obtain ⟨xs,n,rfl,hx,hl,hxl,hall⟩:=DataW.trod_struct Try.underlying34 hf;rw [cellsE4] at hl;obtain ⟨a,b,c,e,rfl⟩:=list4 cs hl;obtain ⟨x0,x1,rfl⟩:=list2n xs (by simpa using hxl)
 have h0:=hall 0 _ rfl;have h1:=hall 1 _ rfl;simp only [List.getElem_toArray,List.getElem_cons_zero,List.getElem_cons_succ,cellsJ3,cellsI,List.drop_zero,List.drop_succ_cons,List.take_succ_cons,List.take_zero,List.getElem?_cons_zero,List.getElem?_cons_succ] at h0 h1;simp only [Prod.mk.injEq,List.map_cons,List.map_nil] at hx;obtain ⟨hd,_⟩:=hx
 have ew:d.weights Try.prog 34=DataW.weightsEach Try.prog [32,3] [x0.1,x1.1]:=by
  rw [hd];simp only [DataW.weights,Try.underlying34];rfl
 obtain ⟨y,e1,hy1,hy2,hy3⟩:=item_cells (fun z hz => hw z (by
  rw [ew];simp only [DataW.weightsEach,List.mem_append]
  exact .inl hz)) h0
 obtain ⟨m0,f0,rfl,q0⟩:=DataW.trod_int Try.underlying3 h1;simp only [List.cons.injEq,and_true] at f0;subst f0;rw [IP.cs_list] at e1;simp only [List.cons.injEq,and_true] at e1;obtain ⟨rfl,rfl,rfl⟩:=e1;exact ⟨⟨⟨y.m,m0⟩,y.p,y.c⟩,rfl,⟨hy1.bat,hy1.le,hy1.mx⟩,⟨hy2,q0⟩,hy3⟩
theorem ents_open {a:Option Addr} {len cap:Nat} {d:DataW H} {ps:List MemPlace} {ts:List TypeId} {ds:List (DataW H)} (hz:(DataW.weightsEach Try.prog ts ds).all (· ≤ reachBytes)=true) {j:Nat} (ht:ts[j]? = some 22) (hd:ds[j]? = some d)
 (h:DataW.Trod enc Try.prog w base (fun _ => true) held 22 (.slice a len cap) d ps) :
 ∃ xs:List EP,EntsAt w a len xs∧len≤cap∧cap≤maxLen∧cap * 56≤140737488351232 ∧ ∀ x ∈ xs,WfE x.m∧RoomE x:=by
 obtain ⟨fuel,hf⟩:=h;rcases open_slice Try.underlying22 hf with ⟨hcs,_⟩ | ⟨x,l,c,m,n,D,Pl,hcs,hb,hl,hm,hmm,hdd,hx⟩
 ·simp [Value.cells] at hcs
  obtain ⟨rfl,rfl,rfl⟩:=hcs;exact ⟨[],ents_nil w none,by omega,by omega,by omega,fun x hx => by simp at hx⟩
 ·simp [Value.cells] at hcs
  obtain ⟨rfl,rfl,rfl⟩:=hcs;simp only [if_true] at hmm;subst hmm;simp only [Prod.mk.injEq] at hdd;obtain ⟨hdd,_⟩:=hdd;have hw:=List.all_eq_true.1 hz
  have key:∀ i,i < len → ∃ q:EP,w.cells? base (x.add (i * 4)) 4=some q.cs.toList∧DatE w q∧WfE q.m∧RoomE q:=fun i hi => by
   obtain ⟨cs',h1,h2⟩:=hx i (by omega)
   rw [cellsE4] at h1;have hmem:D i ∈ (List.range len).map D:=List.mem_map.2 ⟨i,List.mem_range.2 hi,rfl⟩
   obtain ⟨q,rfl,g⟩:=ent_cells (fun z hzz => by
    have hin:z ∈ d.weights Try.prog 22:=by
     rw [hdd];simp only [DataW.weights,Try.underlying22,List.mem_cons,List.mem_append];exact .inr (.inl (weights_all hmem hzz))
    exact of_decide_eq_true (hw _ (DataW.weights_mem_each ht hd _ hin))) h2
   exact ⟨q,h1,g⟩
  obtain ⟨q,hq⟩:=choose_lt key
  have hget:∀ i,i < len → ((List.range len).map q).getD i zeroEn=q i:=fun i hi => by
   simp [List.getD,hi]
  have hbytes:m * 56 ∈ d.weights Try.prog 22:=by
   rw [hdd];simp only [DataW.weights,Try.underlying22,List.mem_cons,List.mem_append,List.length_map,List.length_range];refine .inl ?_
   rw [(by kernel_rfl:Try.prog.bytesOf 34=56)]
   congr 1
   omega
  have hby:=of_decide_eq_true (hw _ (DataW.weights_mem_each ht hd _ hbytes));simp only [reachBytes] at hby;refine ⟨(List.range len).map q,⟨by simp,fun y hy => ?_,fun h0 => ?_⟩,hl,hm,hby,fun y hy => ?_⟩
  ·obtain ⟨i,hi,rfl⟩:=List.mem_map.1 hy
   exact (hq i (List.mem_range.1 hi)).2.1
  ·obtain ⟨_,_,hc0⟩:=World.cells?_some (hq 0 h0).1
   have c0:w.cell? ((x.add (0 * 4)).add 0)=some (.string (str (q 0).m.it.key)):=hc0 0 (by omega)
   have hx0:x=⟨x.block,x.off,none⟩:=by
    obtain ⟨b,o,s⟩:=x
    have hs:s=none:=by
     have:w.cell? (⟨b,o,s⟩:Addr)=some (.string (str (q 0).m.it.key)):=by simpa [Addr.add] using c0
     exact World.cell?_spot this
    rw [hs]
   refine ⟨x.block,x.off,by rw [← hx0],?_,fun i hi j hj => ?_⟩
   ·have c0':w.cell? ((x.add (0 * 4)).add 0)=some (.string (str (q 0).m.it.key)):=c0
    first | rw [hx0,Lib.add_plain,Lib.add_plain] at c0' | rw [hx0,WideShapes.add_plain,WideShapes.add_plain] at c0'
    have c1':=World.block_lt_of_cell? _ _ c0';exact c1'
   ·obtain ⟨_,_,hci⟩:=World.cells?_some (hq i hi).1
    have:=hci j hj
    first | rw [hx0,Lib.add_plain,Lib.add_plain] at this | rw [hx0,WideShapes.add_plain,WideShapes.add_plain] at this
    rw [hget i hi,show x.off+4 * i+j=x.off+i * 4+j by omega,this,Array.getElem?_toList]
  ·obtain ⟨i,hi,rfl⟩:=List.mem_map.1 hy
   exact (hq i (List.mem_range.1 hi)).2.2
end
end Go.Proofs.Ytphehianajckaaa.Hea
end
