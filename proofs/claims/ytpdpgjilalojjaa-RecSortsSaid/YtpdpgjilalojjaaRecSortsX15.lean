/- Texts of this seat, merged: what the proof reaches. -/
import Derived.Test.YtpdpgjilalojjaaRecSortsX4
import Derived.RangeFuncNested
import Derived.Test.YtpdpgjilalojjaaRecSortsX14
import Derived.Test.YtpdpgjilalojjaaRecSortsX5
import Derived.Test.YtpdpgjilalojjaaRecSortsX3
import Derived.Laws.AppendOwn
import Derived.OwnWalk
import Derived.Laws.StructEq
import Derived.Test.YtpdpgjilalojjaaRecSortsX6
import Derived.Test.YtpdpgjilalojjaaRecSortsX13
import Derived.Deep.SlicePairs
import Derived.OpenShut
import Derived.SizedLaws
namespace Go.Proofs.Ytpdpgjilalojjaa
namespace Base
end Base
namespace Bk
end Bk
namespace Byt
end Byt
namespace Head
end Head
namespace Hp
end Hp
namespace Mem
end Mem
namespace Rec
end Rec
namespace Tre
end Tre
namespace Txt
end Txt
end Go.Proofs.Ytpdpgjilalojjaa
section
namespace Go.Proofs.Ytpdpgjilalojjaa.Bk
open Go.ChangeShapes Go.WideShapes Go.ChangeAt Go.RowKit Base Byt
set_option linter.unusedVariables false
def Blk (W:World) (b:Nat) (t:TypeId) (cs:Array Value):Prop:=W.heap[b]? = some (.cells cs t (0,0))
section
variable {W W':World} {b:Nat} {t:TypeId} {cs:Array Value}
theorem Blk.lt (h:Blk W b t cs):b < W.heap.size:=(Array.getElem?_eq_some_iff.1 h).1
theorem Blk.cell (h:Blk W b t cs) (i:Nat):W.cell? ⟨b,i,none⟩=cs[i]?:=by simp [World.cell?,show W.heap[b]? = _ from h]
theorem Blk.frozen (h:Blk W b t cs) (i:Nat):W.frozen? ⟨b,i,none⟩=false:=by simp [World.frozen?,show W.heap[b]? = _ from h]
theorem Blk.new (W:World) (t:TypeId) (cs:Array Value):Blk (W.alloc (.cells cs t)) W.heap.size t cs:=World.alloc_heap_new W _
theorem Blk.kept (h:Blk W b t cs) {row:Option Nat} (hg:W.grownBy W' row) (hr:∀ r,row=some r → ∃ o:Obj,W.heap[r]? = some o∧o.isCells=false):Blk W' b t cs:=
 (grownBy_keeps_cells hg hr h rfl).trans h
theorem Blk.alloc (h:Blk W b t cs) (o:Obj):Blk (W.alloc o) b t cs:=h.kept (World.grownBy_alloc W o none) (fun r e => by cases e)
theorem Blk.drewN (h:Blk W b t cs) (n:Nat):Blk (W.drewN n) b t cs:=h
theorem Blk.drew (h:Blk W b t cs):Blk W.drew b t cs:=h
theorem Blk.below (h:Blk W b t cs) {n:Nat} (hb:Below n W W') (hn:b < n):Blk W' b t cs:=(hb.block b hn).trans h
theorem Blk.keptS {S:Nat → Prop} (h:Blk W b t cs) (hk:Kept S W W') (hn:¬ S b):Blk W' b t cs:=hk.some_ h hn
theorem Blk.set (h:Blk W b t cs) (i:Nat) (v:Value) (hi:i < cs.size):Blk (W.setCell ⟨b,i,none⟩ v) b t (cs.set i v hi):=by
 obtain ⟨hl,he⟩:=Array.getElem?_eq_some_iff.1 h;unfold Blk World.setCell;refine Array.getElem?_eq_some_iff.2 ⟨by simpa using hl,?_⟩
 rw [Array.getElem_modify,if_pos rfl,he];simp [Array.setIfInBounds,hi]
theorem Blk.other (h:Blk W b t cs) {b' i:Nat} (hne:b'≠b) (v:Value):Blk (W.setCell ⟨b',i,none⟩ v) b t cs:=by
 unfold Blk;rw [Below.heap_setCell _ _ _ _ (fun e => hne (by simpa using e.symm))]
 exact h
end
end Go.Proofs.Ytpdpgjilalojjaa.Bk
end
section
namespace Go.Proofs.Ytpdpgjilalojjaa.Mem
open Go.ChangeShapes Go.WideShapes Go.ChangeAt Go.RowKit Base Byt Txt Bk Go.Lib
set_option linter.unusedVariables false
set_option maxRecDepth 100000
structure MP where
 m:MemV
 p:Option Addr
 c:Nat
def zeroM:MemV:=⟨[],[],0,0,0,0,0,[]⟩
def zeroP:MP:=⟨zeroM,none,0⟩
def memC (m:MemV) (p:Option Addr) (c:Nat):Array Value:=#[.string (str m.path),.string (str m.target),.int .u8 (m.kind.toNat:Int),.int .i64 m.mode,.int .i64 m.uid,.int .i64 m.gid,.int .i64 m.time,.slice p m.body.length c]
def MP.cs (x:MP):Array Value:=memC x.m x.p x.c
theorem MP.cs_list (x:MP):x.cs.toList=[.string (str x.m.path),.string (str x.m.target),.int .u8 (x.m.kind.toNat:Int),.int .i64 x.m.mode,.int .i64 x.m.uid,.int .i64 x.m.gid,.int .i64 x.m.time,.slice x.p x.m.body.length x.c]:=rfl
structure BodyAt (w:World) (x:MP):Prop where
 bat:BAt w x.p x.m.body.length x.m.body
 le:x.m.body.length≤x.c
 mx:x.c≤maxLen
theorem BodyAt.kept {S:Nat → Prop} {w w':World} {x:MP} (h:BodyAt w x) (hk:Kept S w w') (hn:0 < x.m.body.length → ∀ a,x.p=some a → ¬ S a.block):BodyAt w' x:=⟨h.bat.kept hk hn,h.le,h.mx⟩
theorem BodyAt.below {w w':World} {x:MP} (h:BodyAt w x) (hb:Below w.heap.size w w'):BodyAt w' x:=⟨h.bat.below hb,h.le,h.mx⟩
def MemsAt (w:World) (p:Option Addr) (n:Nat) (xs:List MP):Prop:=
 xs.length=n∧(∀ x ∈ xs,BodyAt w x)∧(0 < n → ∃ b o,p=some ⟨b,o,none⟩∧b < w.heap.size ∧ ∀ i,i < n → ∀ j,j < 8 → w.cell? ⟨b,o+8 * i+j,none⟩=(xs.getD i zeroP).cs[j]?)
theorem MemsAt.below {w w':World} {p:Option Addr} {n:Nat} {xs:List MP} (h:MemsAt w p n xs) (hb:Below w.heap.size w w'):MemsAt w' p n xs:=by
 refine ⟨h.1,fun x hx => (h.2.1 x hx).below hb,fun h0 => ?_⟩
 obtain ⟨b,o,rfl,hbw,hc⟩:=h.2.2 h0;refine ⟨b,o,rfl,Nat.lt_of_lt_of_le hbw hb.size,fun i hi j hj => ?_⟩
 rw [hb.cell (p:=⟨b,o+8 * i+j,none⟩) hbw];exact hc i hi j hj
theorem MemsAt.cells {w:World} {p:Option Addr} {n:Nat} {xs:List MP} (h:MemsAt w p n xs) {i:Nat} (hi:i < n):∃ b o,p=some ⟨b,o,none⟩∧b < w.heap.size∧BodyAt w (xs.getD i zeroP) ∧
 w.cell? ⟨b,o+8 * i,none⟩=some (.string (str (xs.getD i zeroP).m.path))∧w.cell? ⟨b,o+8 * i+1,none⟩=some (.string (str (xs.getD i zeroP).m.target)) ∧
 w.cell? ⟨b,o+8 * i+2,none⟩=some (.int .u8 ((xs.getD i zeroP).m.kind.toNat:Int))∧w.cell? ⟨b,o+8 * i+3,none⟩=some (.int .i64 (xs.getD i zeroP).m.mode) ∧
 w.cell? ⟨b,o+8 * i+4,none⟩=some (.int .i64 (xs.getD i zeroP).m.uid)∧w.cell? ⟨b,o+8 * i+5,none⟩=some (.int .i64 (xs.getD i zeroP).m.gid) ∧
 w.cell? ⟨b,o+8 * i+6,none⟩=some (.int .i64 (xs.getD i zeroP).m.time)∧w.cell? ⟨b,o+8 * i+7,none⟩=some (.slice (xs.getD i zeroP).p (xs.getD i zeroP).m.body.length (xs.getD i zeroP).c):=by
 obtain ⟨b,o,rfl,hbw,hc⟩:=h.2.2 (by omega)
 have hb:BodyAt w (xs.getD i zeroP):=h.2.1 _ (by
  have hl:i < xs.length:=by rw [h.1];exact hi
  rw [List.getD,List.getElem?_eq_getElem hl]
  exact List.getElem_mem hl)
 exact ⟨b,o,rfl,hbw,hb,hc i hi 0 (by omega),hc i hi 1 (by omega),hc i hi 2 (by omega),hc i hi 3 (by omega),hc i hi 4 (by omega),hc i hi 5 (by omega),hc i hi 6 (by omega),hc i hi 7 (by omega)⟩
theorem run_append_newS {P:Program} {w:World} (base:Nat) (t ty e:TypeId) (i:TypeInfo) (z:Value) (size bytes:Nat) (ht:P.underlying t=some (.slice e)) (hi:P.info? e=some i) (hz:i.zero=some z)
 (hsize:i.size=size) (hby:i.bytes=bytes) (hzs:z.cells.size=size) (hsz:0 < size)
 (v:Value) (n:Nat) (xs:List Value) (hown:w.ownsRow base e size v n xs)
 (a:Addr) (m c:Nat) (news:List Value) (hl:news.length=m * size) (hnews:∀ j u,news[j]? = some u → w.cell? (a.add j)=some u) (h1:∀ u ∈ news,u.oneCell'=true)
 (h63:n+m≤maxLen) (hbytes:(n+m) * bytes≤140737488355328) (hbase:base≤w.heap.size) :
 ∃ v' w',(Builtin.append_ #[t,t] ty #[v,.slice (some a) m c]).run P w=.ok v' w'∧w'.ownsRow base e size v' (n+m) (xs++news)∧w.grownBy w' v.ownBlock∧NewOr w v v':=by
 obtain ⟨v',w',hr,h2,h3,h4⟩:=run_append_own (P:=P) w base t ty e i z size bytes ht hi hz hsize hby hzs hsz v n xs hown a m c news hl hnews h1 h63 hbytes hbase;refine ⟨v',w',hr,h2,h3,?_⟩;have hown':=hown;rcases hown.2 with ⟨rfl,rfl⟩ | ⟨g,cap,cur,rfl,hbg,hg,hnc,hcm,hcs,htake⟩
 ·have hx:xs=[]:=List.eq_nil_of_length_eq_zero (by simpa using hown.1)
  subst hx;obtain ⟨v2,w2,hr2,h22,_,_⟩:=run_append_own (P:=P) w w.heap.size t ty e i z size bytes ht hi hz hsize hby hzs hsz _ 0 [] (World.ownsRow_nil w w.heap.size e size) a m c news hl hnews h1 h63 hbytes (Nat.le_refl _);rw [hr] at hr2
  cases hr2
  exact fun k hk => Or.inr (h22.lt k hk).1
 ·by_cases hroom:n+m≤cap
  ·obtain ⟨w2,hr2,_,_⟩:=run_append_own_spare (P:=P) w base t ty e i size ht hi hsize g n cap xs hown' a m c news hl hnews h1 hroom
   rw [hr] at hr2
   cases hr2
   exact fun k hk => Or.inl hk
  ·have holds:∀ j u,xs[j]? = some u → w.cell? ((⟨g,0,none⟩:Addr).add j)=some u:=hown'.cells (g:=g) rfl
   have hr2:=run_append_grow (P:=P) w t ty e i z ht hi hz ⟨g,0,none⟩ n cap xs (by rw [hsize];exact hown'.1) holds a m c news (by rw [hsize];exact hl) hnews (by omega) (by unfold maxLen at h63;omega) (growslice_fits (by omega) (by rw [hby];exact hbytes))
   rw [hr] at hr2
   cases hr2
   exact fun k hk => Or.inr (by simp [Value.ownBlock] at hk;omega)
end Go.Proofs.Ytpdpgjilalojjaa.Mem
end
section
namespace Go.Proofs.Ytpdpgjilalojjaa.Itm
open Go.ChangeShapes Go.WideShapes Go.ChangeAt Go.RowKit Base Byt Txt Bk Mem Tre Go.Lib
set_option linter.unusedVariables false
set_option maxRecDepth 100000
structure IP where
 m:ItemV
 p:Option Addr
 c:Nat
def zeroJ:IP:=⟨zeroI,none,0⟩
def itmC (m:ItemV) (p:Option Addr) (c:Nat):Array Value:=#[.string (str m.key),.int .i64 m.seq,.slice p m.data.length c]
def IP.cs (x:IP):Array Value:=itmC x.m x.p x.c
theorem IP.cs_list (x:IP):x.cs.toList=[.string (str x.m.key),.int .i64 x.m.seq,.slice x.p x.m.data.length x.c]:=rfl
structure DatAt (w:World) (x:IP):Prop where
 bat:BAt w x.p x.m.data.length x.m.data
 le:x.m.data.length≤x.c
 mx:x.c≤maxLen
theorem DatAt.kept {S:Nat → Prop} {w w':World} {x:IP} (h:DatAt w x) (hk:Kept S w w') (hn:0 < x.m.data.length → ∀ a,x.p=some a → ¬ S a.block):DatAt w' x:=⟨h.bat.kept hk hn,h.le,h.mx⟩
theorem DatAt.below {w w':World} {x:IP} (h:DatAt w x) (hb:Below w.heap.size w w'):DatAt w' x:=⟨h.bat.below hb,h.le,h.mx⟩
def flatJ (xs:List IP):List Value:=xs.flatMap fun x => x.cs.toList
theorem flatJ_cons (x:IP) (xs:List IP):flatJ (x :: xs)=x.cs.toList++flatJ xs:=rfl
theorem flatJ_length (xs:List IP):(flatJ xs).length=3 * xs.length:=by
 induction xs with
 | nil => rfl
 | cons x xs ih => rw [flatJ_cons,List.length_append,ih,IP.cs_list,List.length_cons];simp only [List.length_cons,List.length_nil];omega
theorem flatJ_snoc (xs:List IP) (x:IP):flatJ (xs++[x])=flatJ xs++x.cs.toList:=by simp [flatJ]
theorem flatJ_app (a b:List IP):flatJ (a++b)=flatJ a++flatJ b:=by simp [flatJ]
theorem flatJ_get (xs:List IP):∀ i,i < xs.length → ∀ j,j < 3 → (flatJ xs)[3 * i+j]? = (xs.getD i zeroJ).cs[j]?:=by
 induction xs with
 | nil => intro i h;simp at h
 | cons x xs ih =>
   intro i h j hj;rw [flatJ_cons];have hl:x.cs.toList.length=3:=rfl
   cases i with
   | zero => rw [List.getElem?_append_left (by omega),show 3 * 0+j=j by omega,Array.getElem?_toList];rfl
   | succ i =>
     rw [List.getElem?_append_right (by omega),hl,show 3 * (i+1)+j - 3=3 * i+j by omega,ih i (by simpa using h) j hj]
     rfl
theorem flatJ_one (xs:List IP):∀ u ∈ flatJ xs,u.oneCell'=true:=by
 intro u hu;obtain ⟨x,_,hr⟩:=List.mem_flatMap.1 hu;rw [IP.cs_list] at hr;simp only [List.mem_cons,List.not_mem_nil,or_false] at hr;rcases hr with rfl | rfl | rfl<;>rfl
def ItemsAt (w:World) (p:Option Addr) (n:Nat) (xs:List IP):Prop:=
 xs.length=n∧(∀ x ∈ xs,DatAt w x)∧(0 < n → ∃ b o,p=some ⟨b,o,none⟩∧b < w.heap.size ∧ ∀ i,i < n → ∀ j,j < 3 → w.cell? ⟨b,o+3 * i+j,none⟩=(xs.getD i zeroJ).cs[j]?)
theorem ItemsAt.below {w w':World} {p:Option Addr} {n:Nat} {xs:List IP} (h:ItemsAt w p n xs) (hb:Below w.heap.size w w'):ItemsAt w' p n xs:=by
 refine ⟨h.1,fun x hx => (h.2.1 x hx).below hb,fun h0 => ?_⟩
 obtain ⟨b,o,rfl,hbw,hc⟩:=h.2.2 h0;refine ⟨b,o,rfl,Nat.lt_of_lt_of_le hbw hb.size,fun i hi j hj => ?_⟩
 rw [hb.cell (p:=⟨b,o+3 * i+j,none⟩) hbw];exact hc i hi j hj
theorem items_nil (w:World) (p:Option Addr):ItemsAt w p 0 []:=⟨rfl,fun x hx => by simp at hx,fun h => by omega⟩
theorem items_own {w:World} {base:Nat} {e:TypeId} {v:Value} {xs:List IP} (h:w.ownsRow base e 3 v xs.length (flatJ xs)) (hx:∀ x ∈ xs,DatAt w x):∃ p c,v=.slice p xs.length c∧xs.length≤c∧c≤maxLen∧ItemsAt w p xs.length xs:=by
 rcases h.2 with ⟨rfl,h0⟩ | ⟨g,cap,cur,rfl,hb,hg,hn,hc,hs,ht⟩
 ·exact ⟨none,0,by rw [h0],by omega,by decide,rfl,hx,fun h => by omega⟩
 ·refine ⟨some ⟨g,0,none⟩,cap,rfl,hn,hc,rfl,hx,fun h0 => ⟨g,0,rfl,(Array.getElem?_eq_some_iff.1 hg).1,fun i hi j hj => ?_⟩⟩
  have get:∀ j,j < 3 * xs.length → w.cell? ⟨g,j,none⟩=(flatJ xs)[j]?:=fun j hj => by
   unfold World.cell?;rw [hg,← ht,List.getElem?_take,if_pos (by omega)]
   simp
  rw [Nat.zero_add,get _ (by omega)]
  exact flatJ_get xs i hi j hj
def Cells3 (w:World) (b o:Nat) (y:IP):Prop:=
 w.cell? ⟨b,o,none⟩=some (.string (str y.m.key))∧w.cell? ⟨b,o+1,none⟩=some (.int .i64 y.m.seq)∧w.cell? ⟨b,o+2,none⟩=some (.slice y.p y.m.data.length y.c)
theorem Cells3.below {w w':World} {b o:Nat} {y:IP} (h:Cells3 w b o y) (hb:b < w.heap.size) (hw:Below w.heap.size w w'):Cells3 w' b o y:=by
 unfold Cells3 at h ⊢;simp only [hw.cell (p:=⟨b,_,none⟩) hb];exact h
theorem ItemsAt.cells3 {w:World} {p:Option Addr} {n:Nat} {xs:List IP} (h:ItemsAt w p n xs) {i:Nat} (hi:i < n):∃ b o,p=some ⟨b,o,none⟩∧b < w.heap.size∧DatAt w (xs.getD i zeroJ)∧Cells3 w b (o+i * 3) (xs.getD i zeroJ):=by
 obtain ⟨b,o,rfl,hbw,hc⟩:=h.2.2 (by omega)
 have hb:DatAt w (xs.getD i zeroJ):=h.2.1 _ (by
  have hl:i < xs.length:=by rw [h.1];exact hi
  rw [List.getD,List.getElem?_eq_getElem hl]
  exact List.getElem_mem hl)
 rw [Nat.mul_comm i 3];exact ⟨b,o,rfl,hbw,hb,hc i hi 0 (by omega),hc i hi 1 (by omega),hc i hi 2 (by omega)⟩
theorem takeJ_succ (xs:List IP) (k:Nat) (h:k < xs.length):(xs.take (k+1)).map IP.m=(xs.take k).map IP.m++[(xs.getD k zeroJ).m]:=by
 rw [List.take_succ_eq_append_getElem h,List.map_append,List.getD,List.getElem?_eq_getElem h];rfl
theorem getJ_mem (xs:List IP) (k:Nat) (h:k < xs.length):xs.getD k zeroJ ∈ xs:=by
 rw [List.getD,List.getElem?_eq_getElem h];exact List.getElem_mem h
theorem getJ_map (xs:List IP) (k:Nat):(xs.map IP.m).getD k zeroI=(xs.getD k zeroJ).m:=by
 rw [List.getD,List.getD,List.getElem?_map]
 cases xs[k]?<;>rfl
theorem ItemsAt.drop {w:World} {p:Option Addr} {n:Nat} {xs:List IP} (h:ItemsAt w p n xs) {k:Nat} (hk:k≤n):ItemsAt w p k (xs.take k):=by
 refine ⟨by rw [List.length_take,h.1];omega,fun x hx => h.2.1 x (List.mem_of_mem_take hx),fun h0 => ?_⟩
 obtain ⟨b,o,rfl,hb,hc⟩:=h.2.2 (by omega)
 refine ⟨b,o,rfl,hb,fun i hi j hj => ?_⟩
 rw [hc i (by omega) j hj]
 congr 2
 simp [List.getD,hi]
theorem items_same (xs ys:List IP) (hl:xs.length=ys.length) (h:∀ j,j < xs.length → (xs.getD j zeroJ).m=(ys.getD j zeroJ).m):xs.map IP.m=ys.map IP.m:=by
 apply List.ext_getElem (by simpa using hl)
 intro i h1 h2;simp only [List.length_map] at h1 h2;have:=h i h1;rw [List.getD,List.getD,List.getElem?_eq_getElem h1,List.getElem?_eq_getElem h2] at this
 simpa using this
theorem items_differ (xs ys:List IP) (j:Nat) (hj:j < xs.length) (hj2:j < ys.length) (h:(xs.getD j zeroJ).m≠(ys.getD j zeroJ).m):¬ xs.map IP.m=ys.map IP.m:=fun he => h (by
 have:=congrArg (fun l => l[j]?) he
 simp only [List.getElem?_map,List.getElem?_eq_getElem hj,List.getElem?_eq_getElem hj2,Option.map_some,Option.some.injEq] at this;rw [List.getD,List.getD,List.getElem?_eq_getElem hj,List.getElem?_eq_getElem hj2]
 simpa using this)
theorem infoItm:(Try.prog.info? 24).map (fun i => (i.zero,i.size,i.bytes))=some (some (.agg #[.string ⟨#[]⟩,.int .i64 0,.slice none 0 0]),3,48):=by kernel_rfl
theorem append_item {w:World} {ops:Array Oper} {rest:List Oper} {o:Oper} {a:Act} {Q:Exit → Act → World → Prop} (hgd:o.guard=none) (s x:Operand)
 (ho:o.op=.call { callee:=.builtin .append,args:=#[s,x],argTypes:=#[26,26] })
 (base:Nat) (v:Value) (xs:List IP) (hs:a.eval s=v) (hown:w.ownsRow base 24 3 v xs.length (flatJ xs))
 (b:Nat) (c:Nat) (y:IP) (hx:a.eval x=.slice (some ⟨b,0,none⟩) 1 c) (hb:Blk w b 24 y.cs) (hsum:xs.length≤1000000) (hbase:base≤w.heap.size)
 (h:∀ v' w',w'.ownsRow base 24 3 v' (xs++[y]).length (flatJ (xs++[y])) → w.grownBy w' v.ownBlock → NewOr w v v' → wpList Try.prog ops Q rest (a.put o.dst v') w'):wpList Try.prog ops Q (o :: rest) a w:=by
 obtain ⟨i0,hi,hz0,hz1,hz2⟩:=info_parts infoItm
 obtain ⟨v',w',hr,h2,h3,h4⟩:=run_append_newS (P:=Try.prog) base 26 o.type 24 i0 _ 3 48 Try.underlying26 hi hz0 hz1 hz2 rfl (by decide) v xs.length (flatJ xs) hown ⟨b,0,none⟩ 1 c y.cs.toList rfl (by
  intro j u hj;rw [WideShapes.add_plain,Nat.zero_add,hb.cell,← Array.getElem?_toList]
  exact hj) (fun u hu => flatJ_one [y] u (by simpa [flatJ] using hu)) (by unfold maxLen;omega) (by omega) hbase
 refine wpList_plain hgd fun K hK => ?_
 unfold Oper.wp;simp [execOp,ho,resolve,invoke,builtin,hs,hx,hr,Result.andThen];rw [← flatJ_snoc,show xs.length+1=(xs++[y]).length by simp] at h2
 exact hK _ _ (h v' w' h2 h3 h4)
end Go.Proofs.Ytpdpgjilalojjaa.Itm
end
section
namespace Go.Proofs.Ytpdpgjilalojjaa.Mem
open Go.ChangeShapes Go.WideShapes Go.ChangeAt Go.RowKit Go.Deep Base Byt Txt Bk Hp Head Rec Go.Lib
set_option linter.unusedVariables false
set_option maxRecDepth 100000
theorem cellsY:Try.prog.cellsOf 22=1:=by kernel_rfl
instance:Inhabited MP:=⟨zeroP⟩
section
variable {H:Type} {enc:TypeId × Value → H} {w:World} {base:Nat} {held:Bool}
end
end Go.Proofs.Ytpdpgjilalojjaa.Mem
end
section
namespace Go.Proofs.Ytpdpgjilalojjaa.Itm
open Go.ChangeShapes Go.WideShapes Go.ChangeAt Go.RowKit Go.Deep Base Byt Txt Bk Hp Head Rec Mem Tre Go.Lib
set_option linter.unusedVariables false
set_option maxRecDepth 100000
theorem list3 {α:Type} (l:List α) (h:l.length=3):∃ a b c,l=[a,b,c]:=by
 match l,h with
 | [a,b,c],_ => exact ⟨a,b,c,rfl⟩
theorem cellsJ3:Try.prog.cellsOf 24=3:=by kernel_rfl
instance:Inhabited IP:=⟨zeroJ⟩
def WfI (m:ItemV):Prop:=(Lit.int .i64 m.seq).wf=true
def RoomI (x:IP):Prop:=x.m.key.length≤140737488351232∧x.c≤140737488351232
section
variable {H:Type} {enc:TypeId × Value → H} {w:World} {base:Nat} {held:Bool}
theorem item_cells {cs:List Value} {d:DataW H} {ps:List MemPlace} {fuel:Nat} (hw:∀ z ∈ d.weights Try.prog 24,z≤reachBytes)
 (hf:DataW.trod enc Try.prog w base (fun _ => true) held fuel 24 cs=some (d,ps)) :
 ∃ x:IP,cs=x.cs.toList∧DatAt w x∧WfI x.m∧RoomI x:=by
 obtain ⟨xs,n,rfl,hx,hl,hxl,hall⟩:=DataW.trod_struct Try.underlying24 hf;rw [cellsJ3] at hl;obtain ⟨a,b,c,rfl⟩:=list3 cs hl;obtain ⟨x0,x1,x4,rfl⟩:=list3 xs (by simpa using hxl)
 have h0:=hall 0 _ rfl;have h1:=hall 1 _ rfl;have h4:=hall 2 _ rfl;simp only [List.getElem_toArray,List.getElem_cons_zero,List.getElem_cons_succ,cellsS,cellsI,cellsY,List.drop_zero,List.drop_succ_cons,List.take_succ_cons,List.take_zero,List.getElem?_cons_zero,List.getElem?_cons_succ] at h0 h1 h4;obtain ⟨s0,e0,rfl,z0⟩:=DataW.trod_string Try.underlying9 h0;obtain ⟨m0,f0,rfl,q0⟩:=DataW.trod_int Try.underlying3 h1;simp only [List.cons.injEq,and_true] at e0 f0;subst e0 f0;simp only [Prod.mk.injEq,List.map_cons,List.map_nil] at hx;obtain ⟨hd,_⟩:=hx
 have ew:d.weights Try.prog 24=DataW.weightsEach Try.prog [9,3,22] [.lit (.string s0.data.toList),.lit (.int .i64 m0),x4.1]:=by
  rw [hd];simp only [DataW.weights,Try.underlying24];rfl
 have w0:=hw s0.data.toList.length (by rw [ew];simp [DataW.weightsEach,DataW.weights])
 have w4:∀ z ∈ x4.1.weights Try.prog 22,z≤reachBytes:=fun z hz => hw z (by
  rw [ew];simp only [DataW.weightsEach,List.mem_append]
  exact .inr (.inr (.inl hz)))
 simp only [reachBytes] at w0;rcases open_ints Try.underlying22 Try.underlying5 cellsU h4 with ⟨hcs,_⟩ | ⟨x,l,cp,zs,hcs,_,hlc,hmx,hz,hxx,hcell,hwz⟩
 ·simp only [List.cons.injEq,and_true] at hcs
  subst hcs;refine ⟨⟨⟨s0.data.toList,m0,[]⟩,none,0⟩,?_,⟨fun h0 => by simp at h0,Nat.le_refl _,by show (0:Nat)≤maxLen;decide⟩,q0,by omega,by show 0≤_;omega⟩
  rw [IP.cs_list,str_of];rfl
 ·simp only [List.cons.injEq,and_true] at hcs
  subst hcs;simp only [if_true] at hz;have hrow:IsRow .u8 w (some x) l cp zs:=.inr ⟨_,rfl,hlc,hmx,hz,fun i hi => hcell i hi,hwz⟩
  obtain ⟨b1,b2,b3,b4⟩:=bat_of_row hrow
  have wc:=w4 (cp * 1) (by
   rw [hxx];simp only [DataW.weights,Try.underlying22,List.mem_cons,List.mem_append,lits,List.length_map,List.length_take,List.length_drop];refine .inl ?_
   rw [(by kernel_rfl:Try.prog.bytesOf 5=1)]
   congr 1
   omega)
  simp only [reachBytes] at wc;refine ⟨⟨⟨s0.data.toList,m0,bytesOf (zs.take l)⟩,some x,cp⟩,?_,⟨?_,?_,hmx⟩,q0,by omega,by show cp≤_;omega⟩
  ·rw [IP.cs_list,str_of]
   simp only [b2]
  ·show BAt w (some x) (bytesOf (zs.take l)).length (bytesOf (zs.take l))
   rw [b2];exact b1
  ·show (bytesOf (zs.take l)).length≤cp
   rw [b2];exact hlc
theorem items_open {a:Option Addr} {len cap:Nat} {d:DataW H} {ps:List MemPlace} {ts:List TypeId} {ds:List (DataW H)} (hz:(DataW.weightsEach Try.prog ts ds).all (· ≤ reachBytes)=true) {j:Nat} (ht:ts[j]? = some 26) (hd:ds[j]? = some d)
 (h:DataW.Trod enc Try.prog w base (fun _ => true) held 26 (.slice a len cap) d ps) :
 ∃ xs:List IP,ItemsAt w a len xs∧len≤cap∧cap≤maxLen∧cap * 48≤140737488351232 ∧ ∀ x ∈ xs,WfI x.m∧RoomI x:=by
 obtain ⟨fuel,hf⟩:=h;rcases open_slice Try.underlying26 hf with ⟨hcs,_⟩ | ⟨x,l,c,m,n,D,Pl,hcs,hb,hl,hm,hmm,hdd,hx⟩
 ·simp [Value.cells] at hcs
  obtain ⟨rfl,rfl,rfl⟩:=hcs;exact ⟨[],items_nil w none,by omega,by omega,by omega,fun x hx => by simp at hx⟩
 ·simp [Value.cells] at hcs
  obtain ⟨rfl,rfl,rfl⟩:=hcs;simp only [if_true] at hmm;subst hmm;simp only [Prod.mk.injEq] at hdd;obtain ⟨hdd,_⟩:=hdd;have hw:=List.all_eq_true.1 hz
  have key:∀ i,i < len → ∃ q:IP,w.cells? base (x.add (i * 3)) 3=some q.cs.toList∧DatAt w q∧WfI q.m∧RoomI q:=fun i hi => by
   obtain ⟨cs',h1,h2⟩:=hx i (by omega)
   rw [cellsJ3] at h1;have hmem:D i ∈ (List.range len).map D:=List.mem_map.2 ⟨i,List.mem_range.2 hi,rfl⟩
   obtain ⟨q,rfl,g⟩:=item_cells (fun z hzz => by
    have hin:z ∈ d.weights Try.prog 26:=by
     rw [hdd];simp only [DataW.weights,Try.underlying26,List.mem_cons,List.mem_append];exact .inr (.inl (weights_all hmem hzz))
    exact of_decide_eq_true (hw _ (DataW.weights_mem_each ht hd _ hin))) h2
   exact ⟨q,h1,g⟩
  obtain ⟨q,hq⟩:=choose_lt key
  have hget:∀ i,i < len → ((List.range len).map q).getD i zeroJ=q i:=fun i hi => by
   simp [List.getD,hi]
  have hbytes:m * 48 ∈ d.weights Try.prog 26:=by
   rw [hdd];simp only [DataW.weights,Try.underlying26,List.mem_cons,List.mem_append,List.length_map,List.length_range];refine .inl ?_
   rw [(by kernel_rfl:Try.prog.bytesOf 24=48)]
   congr 1
   omega
  have hby:=of_decide_eq_true (hw _ (DataW.weights_mem_each ht hd _ hbytes));simp only [reachBytes] at hby;refine ⟨(List.range len).map q,⟨by simp,fun y hy => ?_,fun h0 => ?_⟩,hl,hm,hby,fun y hy => ?_⟩
  ·obtain ⟨i,hi,rfl⟩:=List.mem_map.1 hy
   exact (hq i (List.mem_range.1 hi)).2.1
  ·obtain ⟨_,_,hc0⟩:=World.cells?_some (hq 0 h0).1
   have c0:w.cell? ((x.add (0 * 3)).add 0)=some (.string (str (q 0).m.key)):=hc0 0 (by omega)
   have hx0:x=⟨x.block,x.off,none⟩:=by
    obtain ⟨b,o,s⟩:=x
    have hs:s=none:=by
     have:w.cell? (⟨b,o,s⟩:Addr)=some (.string (str (q 0).m.key)):=by simpa [Addr.add] using c0
     exact World.cell?_spot this
    rw [hs]
   refine ⟨x.block,x.off,by rw [← hx0],?_,fun i hi j hj => ?_⟩
   ·have c0':w.cell? ((x.add (0 * 3)).add 0)=some (.string (str (q 0).m.key)):=c0
    first | rw [hx0,Lib.add_plain,Lib.add_plain] at c0' | rw [hx0,WideShapes.add_plain,WideShapes.add_plain] at c0'
    have c1':=World.block_lt_of_cell? _ _ c0';exact c1'
   ·obtain ⟨_,_,hci⟩:=World.cells?_some (hq i hi).1
    have:=hci j hj
    first | rw [hx0,Lib.add_plain,Lib.add_plain] at this | rw [hx0,WideShapes.add_plain,WideShapes.add_plain] at this
    rw [hget i hi,show x.off+3 * i+j=x.off+i * 3+j by omega,this,Array.getElem?_toList]
  ·obtain ⟨i,hi,rfl⟩:=List.mem_map.1 hy
   exact (hq i (List.mem_range.1 hi)).2.2
end
end Go.Proofs.Ytpdpgjilalojjaa.Itm
end
section
namespace Go.Proofs.Ytpdpgjilalojjaa.Mem
open Go.ChangeShapes Go.WideShapes Go.ChangeAt Go.RowKit Base Byt Txt Bk Go.Lib
set_option linter.unusedVariables false
set_option maxRecDepth 100000
theorem bat_lt {w:World} {p:Option Addr} {m:Nat} {bs:List UInt8} (h:BAt w p m bs) (h0:0 < m) {y:Addr} (hy:p=some y):y.block < w.heap.size:=by
 obtain ⟨b,o,he,hb,_⟩:=h.cell h0;rw [hy] at he
 cases he
 exact hb
def Cells8 (w:World) (b o:Nat) (y:MP):Prop:=
 w.cell? ⟨b,o,none⟩=some (.string (str y.m.path))∧w.cell? ⟨b,o+1,none⟩=some (.string (str y.m.target))∧w.cell? ⟨b,o+2,none⟩=some (.int .u8 (y.m.kind.toNat:Int))∧w.cell? ⟨b,o+3,none⟩=some (.int .i64 y.m.mode) ∧
 w.cell? ⟨b,o+4,none⟩=some (.int .i64 y.m.uid)∧w.cell? ⟨b,o+5,none⟩=some (.int .i64 y.m.gid)∧w.cell? ⟨b,o+6,none⟩=some (.int .i64 y.m.time)∧w.cell? ⟨b,o+7,none⟩=some (.slice y.p y.m.body.length y.c)
theorem Cells8.below {w w':World} {b o:Nat} {y:MP} (h:Cells8 w b o y) (hb:b < w.heap.size) (hw:Below w.heap.size w w'):Cells8 w' b o y:=by
 unfold Cells8 at h ⊢;simp only [hw.cell (p:=⟨b,_,none⟩) hb];exact h
end Go.Proofs.Ytpdpgjilalojjaa.Mem
end
section
namespace Go.Proofs.Ytpdpgjilalojjaa.Tre
open Go.ChangeShapes Go.WideShapes Go.ChangeAt Go.RowKit Base Byt Txt Bk Mem Go.Lib
set_option linter.unusedVariables false
set_option maxRecDepth 100000
structure NP where
 m:NodeV
 p:Option Addr
 c:Nat
def zeroQ:NP:=⟨zeroN,none,0⟩
def nodC (m:NodeV) (p:Option Addr) (c:Nat):Array Value:=#[.string (str m.path),.string (str m.target),.string (str m.leader),.int .u8 (m.kind.toNat:Int),.int .i64 m.mode,.int .i64 m.uid,.int .i64 m.gid,.int .i64 m.time,.slice p m.body.length c]
def NP.cs (x:NP):Array Value:=nodC x.m x.p x.c
theorem NP.cs_list (x:NP):x.cs.toList=[.string (str x.m.path),.string (str x.m.target),.string (str x.m.leader),.int .u8 (x.m.kind.toNat:Int),.int .i64 x.m.mode,.int .i64 x.m.uid,.int .i64 x.m.gid,.int .i64 x.m.time,.slice x.p x.m.body.length x.c]:=rfl
structure BodAt (w:World) (x:NP):Prop where
 bat:BAt w x.p x.m.body.length x.m.body
 le:x.m.body.length≤x.c
 mx:x.c≤maxLen
theorem BodAt.kept {S:Nat → Prop} {w w':World} {x:NP} (h:BodAt w x) (hk:Kept S w w') (hn:0 < x.m.body.length → ∀ a,x.p=some a → ¬ S a.block):BodAt w' x:=⟨h.bat.kept hk hn,h.le,h.mx⟩
theorem BodAt.below {w w':World} {x:NP} (h:BodAt w x) (hb:Below w.heap.size w w'):BodAt w' x:=⟨h.bat.below hb,h.le,h.mx⟩
def NodesAt (w:World) (p:Option Addr) (n:Nat) (xs:List NP):Prop:=
 xs.length=n∧(∀ x ∈ xs,BodAt w x)∧(0 < n → ∃ b o,p=some ⟨b,o,none⟩∧b < w.heap.size ∧ ∀ i,i < n → ∀ j,j < 9 → w.cell? ⟨b,o+9 * i+j,none⟩=(xs.getD i zeroQ).cs[j]?)
theorem NodesAt.below {w w':World} {p:Option Addr} {n:Nat} {xs:List NP} (h:NodesAt w p n xs) (hb:Below w.heap.size w w'):NodesAt w' p n xs:=by
 refine ⟨h.1,fun x hx => (h.2.1 x hx).below hb,fun h0 => ?_⟩
 obtain ⟨b,o,rfl,hbw,hc⟩:=h.2.2 h0;refine ⟨b,o,rfl,Nat.lt_of_lt_of_le hbw hb.size,fun i hi j hj => ?_⟩
 rw [hb.cell (p:=⟨b,o+9 * i+j,none⟩) hbw];exact hc i hi j hj
def Cells9 (w:World) (b o:Nat) (y:NP):Prop:=
 w.cell? ⟨b,o,none⟩=some (.string (str y.m.path))∧w.cell? ⟨b,o+1,none⟩=some (.string (str y.m.target))∧w.cell? ⟨b,o+2,none⟩=some (.string (str y.m.leader))∧w.cell? ⟨b,o+3,none⟩=some (.int .u8 (y.m.kind.toNat:Int))∧w.cell? ⟨b,o+4,none⟩=some (.int .i64 y.m.mode) ∧
 w.cell? ⟨b,o+5,none⟩=some (.int .i64 y.m.uid)∧w.cell? ⟨b,o+6,none⟩=some (.int .i64 y.m.gid)∧w.cell? ⟨b,o+7,none⟩=some (.int .i64 y.m.time)∧w.cell? ⟨b,o+8,none⟩=some (.slice y.p y.m.body.length y.c)
theorem Cells9.below {w w':World} {b o:Nat} {y:NP} (h:Cells9 w b o y) (hb:b < w.heap.size) (hw:Below w.heap.size w w'):Cells9 w' b o y:=by
 unfold Cells9 at h ⊢;simp only [hw.cell (p:=⟨b,_,none⟩) hb];exact h
theorem NodesAt.drop {w:World} {p:Option Addr} {n:Nat} {xs:List NP} (h:NodesAt w p n xs) {k:Nat} (hk:k≤n):NodesAt w p k (xs.take k):=by
 refine ⟨by rw [List.length_take,h.1];omega,fun x hx => h.2.1 x (List.mem_of_mem_take hx),fun h0 => ?_⟩
 obtain ⟨b,o,rfl,hb,hc⟩:=h.2.2 (by omega)
 refine ⟨b,o,rfl,hb,fun i hi j hj => ?_⟩
 rw [hc i (by omega) j hj]
 congr 2
 simp [List.getD,hi]
end Go.Proofs.Ytpdpgjilalojjaa.Tre
end
section
namespace Go.Proofs.Ytpdpgjilalojjaa.Tre
open Go.ChangeShapes Go.WideShapes Go.ChangeAt Go.RowKit Base Byt Txt Bk Mem Go.Lib
set_option linter.unusedVariables false
set_option maxRecDepth 100000
theorem blk_setIf {W:World} {b:Nat} {t:TypeId} {cs:Array Value} (h:Blk W b t cs) (i:Nat) (v:Value):Blk (W.setCell ⟨b,i,none⟩ v) b t (cs.setIfInBounds i v):=by
 obtain ⟨hl,he⟩:=Array.getElem?_eq_some_iff.1 h;unfold Blk World.setCell;refine Array.getElem?_eq_some_iff.2 ⟨by simpa using hl,?_⟩
 rw [Array.getElem_modify,if_pos rfl,he];rfl
def setN (A:Array Value) (b:Nat):List Value → Array Value
 | [] => A
 | v :: vs => setN (A.setIfInBounds b v) (b+1) vs
theorem setN_size (vs:List Value):∀ (A:Array Value) (b:Nat),(setN A b vs).size=A.size:=by
 induction vs with
 | nil => intro A b;rfl
 | cons v vs ih => intro A b;rw [setN,ih];simp
theorem setN_get (vs:List Value):∀ (A:Array Value) (b m:Nat),b+vs.length≤A.size → (setN A b vs)[m]? = if b≤m∧m < b+vs.length then vs[m - b]? else A[m]?:=by
 induction vs with
 | nil => intro A b m _;rw [setN,if_neg (by simp only [List.length_nil];omega)]
 | cons v vs ih =>
   intro A b m h;rw [List.length_cons] at h;rw [setN,ih _ _ _ (by simp;omega),List.length_cons,Array.getElem?_setIfInBounds]
   by_cases h1:b=m
   ·subst h1
    rw [if_neg (by omega),if_pos rfl,if_pos (by omega),if_pos (by omega)]
    simp
   ·rw [if_neg h1]
    by_cases h2:b+1≤m∧m < b+1+vs.length
    ·rw [if_pos h2,if_pos (by omega),show m - b=(m - (b+1))+1 by omega,List.getElem?_cons_succ]
    ·rw [if_neg h2,if_neg (by omega)]
end Go.Proofs.Ytpdpgjilalojjaa.Tre
end
section
namespace Go.Proofs.Ytpdpgjilalojjaa.Itm
open Go.ChangeShapes Go.WideShapes Go.ChangeAt Go.RowKit Base Byt Txt Bk Mem Tre Go.Lib
set_option linter.unusedVariables false
set_option maxRecDepth 100000
def Ri (W:World) (g:Nat) (ys:List IP):Prop:=∃ cur,Blk W g 24 cur∧3 * ys.length≤cur.size ∧ ∀ i,i < ys.length → ∀ j,j < 3 → cur[3 * i+j]? = (ys.getD i zeroJ).cs[j]?
theorem Ri.cells3 {W:World} {g:Nat} {ys:List IP} (h:Ri W g ys) {k:Nat} (hk:k < ys.length):Cells3 W g (k * 3) (ys.getD k zeroJ):=by
 obtain ⟨cur,hb,_,hc⟩:=h
 have key:∀ j,j < 3 → W.cell? ⟨g,k * 3+j,none⟩=(ys.getD k zeroJ).cs[j]?:=fun j hj => by
  rw [hb.cell,Nat.mul_comm,hc k hk j hj]
 exact ⟨key 0 (by omega),key 1 (by omega),key 2 (by omega)⟩
theorem getJ_eq {ys:List IP} {k:Nat} (hk:k < ys.length):ys.getD k zeroJ=ys[k]:=by rw [List.getD,List.getElem?_eq_getElem hk];rfl
theorem getSetJ (ys:List IP) (k i:Nat) (y:IP) (hk:k < ys.length):(ys.set k y).getD i zeroJ=if i=k then y else ys.getD i zeroJ:=by
 rw [List.getD,List.getD,List.getElem?_set]
 by_cases h:k=i
 ·subst h
  simp [hk]
 ·rw [if_neg h,if_neg (fun e => h e.symm)]
theorem Ri.items {W:World} {g:Nat} {ys:List IP} (h:Ri W g ys) (hb:∀ y ∈ ys,DatAt W y):ItemsAt W (some ⟨g,0,none⟩) ys.length ys:=by
 obtain ⟨cur,hB,_,hc⟩:=h;exact ⟨rfl,hb,fun _ => ⟨g,0,rfl,hB.lt,fun i hi j hj => by rw [Nat.zero_add,hB.cell,hc i hi j hj]⟩⟩
def put3 (W:World) (g o:Nat) (y:IP):World:=((W.setCell ⟨g,o,none⟩ (.string (str y.m.key))).setCell ⟨g,o+1,none⟩ (.int .i64 y.m.seq)).setCell ⟨g,o+2,none⟩ (.slice y.p y.m.data.length y.c)
theorem Ri.set {W:World} {g:Nat} {ys:List IP} (h:Ri W g ys) {k:Nat} (hk:k < ys.length) (y:IP):Ri (put3 W g (k * 3) y) g (ys.set k y):=by
 obtain ⟨cur,hb,hs,hc⟩:=h;have hr:=(blk_setIf (blk_setIf (blk_setIf hb (k * 3) (.string (str y.m.key))) (k * 3+1) (.int .i64 y.m.seq)) (k * 3+2) (.slice y.p y.m.data.length y.c))
 have e:setN cur (k * 3) y.cs.toList=(((cur.setIfInBounds (k * 3) (.string (str y.m.key))).setIfInBounds (k * 3+1) (.int .i64 y.m.seq)).setIfInBounds (k * 3+2) (.slice y.p y.m.data.length y.c)):=by
  rw [IP.cs_list];simp only [setN,Nat.add_assoc,Nat.reduceAdd]
 refine ⟨setN cur (k * 3) y.cs.toList,by unfold put3;rw [e];exact hr,by rw [setN_size,List.length_set];exact hs,fun i hi j hj => ?_⟩
 rw [List.length_set] at hi;have hl:y.cs.toList.length=3:=rfl;rw [getSetJ ys k i y hk,setN_get _ _ _ _ (by rw [hl];omega),hl]
 by_cases hik:i=k
 ·subst hik
  rw [if_pos rfl,if_pos (by omega),show 3 * i+j - i * 3=j by omega,Array.getElem?_toList]
 ·rw [if_neg hik,if_neg (by omega),hc i hi j hj]
theorem put3_kept {W:World} {S:Nat → Prop} {g o:Nat} (hg:S g) (y:IP):Kept S W (put3 W g o y):=
 (((Kept.refl S W).setCell (a:=⟨g,o,none⟩) (.inr hg) _).setCell (a:=⟨g,o+1,none⟩) (.inr hg) _).setCell (a:=⟨g,o+2,none⟩) (.inr hg) _
theorem ri_drewN {W:World} {g:Nat} {ys:List IP} (h:Ri W g ys) (m:Nat):Ri (W.drewN m) g ys:=by
 obtain ⟨cur,h1,h2,h3⟩:=h;exact ⟨cur,h1.drewN m,h2,h3⟩
theorem ri_below {W W':World} {g:Nat} {ys:List IP} (h:Ri W g ys) (hb:Below W.heap.size W W'):Ri W' g ys:=by
 obtain ⟨cur,h1,h2,h3⟩:=h;exact ⟨cur,h1.below hb h1.lt,h2,h3⟩
theorem ri_own {w':World} {B:Nat} {v:Value} {ys:List IP} (h:w'.ownsRow B 24 3 v ys.length (flatJ ys)) (h0:0 < ys.length):∃ g c,v=.slice (some ⟨g,0,none⟩) ys.length c∧B≤g∧ys.length≤c∧c≤maxLen∧Ri w' g ys:=by
 rcases h.2 with ⟨_,h1⟩ | ⟨g,cap,cur,h1,hb,hg,h2,h3,h4,h5⟩
 ·omega
 ·have hsz:3 * ys.length≤cur.size:=by
   have h6:=congrArg List.length h5;rw [List.length_take,flatJ_length] at h6;have:cur.toList.length=cur.size:=rfl;omega
  refine ⟨g,cap,h1,hb,h2,h3,cur,hg,hsz,fun i hi j hj => ?_⟩
  rw [← flatJ_get ys i hi j hj,← h5,List.getElem?_take,if_pos (by omega)]
  simp
theorem append_items {w:World} {ops:Array Oper} {rest:List Oper} {o:Oper} {a:Act} {Q:Exit → Act → World → Prop} (hgd:o.guard=none) (s x:Operand)
 (ho:o.op=.call { callee:=.builtin .append,args:=#[s,x],argTypes:=#[26,26] })
 (base:Nat) (v:Value) (n:Nat) (xs:List IP) (hn:xs.length=n) (hs:a.eval s=v) (hown:w.ownsRow base 24 3 v n (flatJ xs))
 (p:Option Addr) (m c:Nat) (ys:List IP) (hx:a.eval x=.slice p m c) (hb:ItemsAt w p m ys) (hsum:(n+m) * 48≤140737488355328) (hbase:base≤w.heap.size)
 (h:∀ v' w',w'.ownsRow base 24 3 v' (xs++ys).length (flatJ (xs++ys)) → w.grownBy w' v.ownBlock → wpList Try.prog ops Q rest (a.put o.dst v') w'):wpList Try.prog ops Q (o :: rest) a w:=by
 obtain ⟨i,hi,hz,hsize,hby⟩:=info_parts infoItm;have hl:=hb.1;rcases p with _ | ad
 ·have hm:m=0:=by
   rcases Nat.eq_zero_or_pos m with h0 | h0
   ·exact h0
   ·obtain ⟨_,_,he,_⟩:=hb.2.2 h0
    cases he
  subst hm;obtain rfl:ys=[]:=List.eq_nil_of_length_eq_zero hl
  have hrun:(Builtin.append_ #[26,26] o.type #[v,.slice none 0 c]).run Try.prog w=.ok v w:=by
   rcases hown.2 with ⟨rfl,rfl⟩ | ⟨g,cap,cur,rfl,_,_,hnc,_⟩
   ·simp [Builtin.append_,run_underlying Try.underlying26,sizeOf,typeInfo,hi,Builtin.lenOf,Builtin.firstCells]
   ·simp [Builtin.append_,run_underlying Try.underlying26,sizeOf,typeInfo,hi,Builtin.lenOf,Builtin.firstCells,hnc,storeCells]
  refine wpList_plain hgd fun K hK => ?_
  unfold Oper.wp;simp [execOp,ho,resolve,invoke,builtin,hs,hx,hrun,Result.andThen];exact hK _ _ (h v w (by rw [List.append_nil,hn];exact hown) (World.grownBy.refl w _))
 ·refine wpList_append_own w hgd s x 26 ho base 24 i _ 3 48 Try.underlying26 hi hz hsize hby rfl (by decide) v n (flatJ xs) hs hown ad m c (flatJ ys) hx (by rw [flatJ_length,hl];omega) ?_ (flatJ_one ys) (by unfold maxLen;omega) hsum hbase ?_
  ·intro j u hj
   have hjl:j < 3 * m:=by
    have:=(List.getElem?_eq_some_iff.1 hj).1;rw [flatJ_length,hl] at this;exact this
   obtain ⟨b,off,he,_,hc⟩:=hb.2.2 (by omega)
   cases he
   have h1:=hc (j / 3) (by omega) (j % 3) (by omega)
   have h2:=flatJ_get ys (j / 3) (by omega) (j % 3) (by omega)
   rw [show 3 * (j / 3)+j % 3=j by omega] at h2
   rw [WideShapes.add_plain,show off+j=off+3 * (j / 3)+j % 3 by omega,h1,← h2]
   exact hj
  ·intro v' w' h1 h2 _
   rw [← flatJ_app,show n+m=(xs++ys).length by rw [List.length_append,hn,hl]] at h1
   exact h v' w' h1 h2
end Go.Proofs.Ytpdpgjilalojjaa.Itm
end
