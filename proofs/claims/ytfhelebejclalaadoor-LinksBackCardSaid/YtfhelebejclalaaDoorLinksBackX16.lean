/- Texts of this seat, merged: what the proof reaches. -/
import Derived.Test.YtfhelebejclalaaDoorLinksBackX6
import Derived.RangeFuncNested
import Derived.Test.YtfhelebejclalaaDoorLinksBackX15
import Derived.Test.YtfhelebejclalaaDoorLinksBackX8
import Derived.Test.YtfhelebejclalaaDoorLinksBackX5
import Derived.Laws.AppendOwn
import Derived.OwnWalk
import Derived.Laws.StructEq
import Derived.Test.YtfhelebejclalaaDoorLinksBackX9
import Derived.Test.YtfhelebejclalaaDoorLinksBackX13
import Derived.Deep.SlicePairs
import Derived.OpenShut
import Derived.SizedLaws
import Derived.BigQuiet
namespace Go.Proofs.YtfhelebejclalaaDoor
namespace Base
end Base
namespace Bk
end Bk
namespace Block
end Block
namespace Byt
end Byt
namespace Head
end Head
namespace Hp
end Hp
namespace Mem
end Mem
namespace Mp
end Mp
namespace Rec
end Rec
namespace Tre
end Tre
namespace Txt
end Txt
end Go.Proofs.YtfhelebejclalaaDoor
section
namespace Go.Proofs.YtfhelebejclalaaDoor.Bk
open Go.ChangeShapes Go.WideShapes Go.ChangeAt Go.RowKit Base Byt
set_option linter.unusedVariables false
def Blk (W:World) (b:Nat) (t:TypeId) (cs:Array Value):Prop:=W.heap[b]? = some (.cells cs t (0,0))
section
variable {W W':World} {b:Nat} {t:TypeId} {cs:Array Value}
theorem Blk.lt (h:Blk W b t cs):b < W.heap.size:=(Array.getElem?_eq_some_iff.1 h).1
theorem Blk.cell (h:Blk W b t cs) (i:Nat):W.cell? ⟨b,i,none⟩=cs[i]?:=by simp [World.cell?,show W.heap[b]? = _ from h]
theorem Blk.frozen (h:Blk W b t cs) (i:Nat):W.frozen? ⟨b,i,none⟩=false:=by simp [World.frozen?,show W.heap[b]? = _ from h]
theorem Blk.new (W:World) (t:TypeId) (cs:Array Value):Blk (W.alloc (.cells cs t)) W.heap.size t cs:=World.alloc_heap_new W _
theorem Blk.kept (h:Blk W b t cs) {row:Option Nat} (hg:W.grownBy W' row) (hr:∀ r,row=some r → ∃ o:Obj,W.heap[r]? = some o∧o.isCells=false):Blk W' b t cs:=
 (grownBy_keeps_cells hg hr h rfl).trans h
theorem Blk.alloc (h:Blk W b t cs) (o:Obj):Blk (W.alloc o) b t cs:=h.kept (World.grownBy_alloc W o none) (fun r e => by cases e)
theorem Blk.drewN (h:Blk W b t cs) (n:Nat):Blk (W.drewN n) b t cs:=h
theorem Blk.drew (h:Blk W b t cs):Blk W.drew b t cs:=h
theorem Blk.below (h:Blk W b t cs) {n:Nat} (hb:Below n W W') (hn:b < n):Blk W' b t cs:=(hb.block b hn).trans h
theorem Blk.keptS {S:Nat → Prop} (h:Blk W b t cs) (hk:Kept S W W') (hn:¬ S b):Blk W' b t cs:=hk.some_ h hn
theorem Blk.set (h:Blk W b t cs) (i:Nat) (v:Value) (hi:i < cs.size):Blk (W.setCell ⟨b,i,none⟩ v) b t (cs.set i v hi):=by
 obtain ⟨hl,he⟩:=Array.getElem?_eq_some_iff.1 h;unfold Blk World.setCell;refine Array.getElem?_eq_some_iff.2 ⟨by simpa using hl,?_⟩
 rw [Array.getElem_modify,if_pos rfl,he];simp [Array.setIfInBounds,hi]
theorem Blk.other (h:Blk W b t cs) {b' i:Nat} (hne:b'≠b) (v:Value):Blk (W.setCell ⟨b',i,none⟩ v) b t cs:=by
 unfold Blk;rw [Below.heap_setCell _ _ _ _ (fun e => hne (by simpa using e.symm))]
 exact h
end
end Go.Proofs.YtfhelebejclalaaDoor.Bk
end
section
namespace Go.Proofs.YtfhelebejclalaaDoor.Mem
open Go.ChangeShapes Go.WideShapes Go.ChangeAt Go.RowKit Base Byt Txt Bk Go.Lib
set_option linter.unusedVariables false
set_option maxRecDepth 100000
structure MP where
 m:MemV
 p:Option Addr
 c:Nat
def zeroM:MemV:=⟨[],[],0,0,0,0,0,[]⟩
def zeroP:MP:=⟨zeroM,none,0⟩
def memC (m:MemV) (p:Option Addr) (c:Nat):Array Value:=#[.string (str m.path),.string (str m.target),.int .u8 (m.kind.toNat:Int),.int .i64 m.mode,.int .i64 m.uid,.int .i64 m.gid,.int .i64 m.time,.slice p m.body.length c]
def MP.cs (x:MP):Array Value:=memC x.m x.p x.c
theorem MP.cs_list (x:MP):x.cs.toList=[.string (str x.m.path),.string (str x.m.target),.int .u8 (x.m.kind.toNat:Int),.int .i64 x.m.mode,.int .i64 x.m.uid,.int .i64 x.m.gid,.int .i64 x.m.time,.slice x.p x.m.body.length x.c]:=rfl
structure BodyAt (w:World) (x:MP):Prop where
 bat:BAt w x.p x.m.body.length x.m.body
 le:x.m.body.length≤x.c
 mx:x.c≤maxLen
theorem BodyAt.kept {S:Nat → Prop} {w w':World} {x:MP} (h:BodyAt w x) (hk:Kept S w w') (hn:0 < x.m.body.length → ∀ a,x.p=some a → ¬ S a.block):BodyAt w' x:=⟨h.bat.kept hk hn,h.le,h.mx⟩
theorem BodyAt.below {w w':World} {x:MP} (h:BodyAt w x) (hb:Below w.heap.size w w'):BodyAt w' x:=⟨h.bat.below hb,h.le,h.mx⟩
def flatM (xs:List MP):List Value:=xs.flatMap fun x => x.cs.toList
def MemsAt (w:World) (p:Option Addr) (n:Nat) (xs:List MP):Prop:=
 xs.length=n∧(∀ x ∈ xs,BodyAt w x)∧(0 < n → ∃ b o,p=some ⟨b,o,none⟩∧b < w.heap.size ∧ ∀ i,i < n → ∀ j,j < 8 → w.cell? ⟨b,o+8 * i+j,none⟩=(xs.getD i zeroP).cs[j]?)
theorem MemsAt.below {w w':World} {p:Option Addr} {n:Nat} {xs:List MP} (h:MemsAt w p n xs) (hb:Below w.heap.size w w'):MemsAt w' p n xs:=by
 refine ⟨h.1,fun x hx => (h.2.1 x hx).below hb,fun h0 => ?_⟩
 obtain ⟨b,o,rfl,hbw,hc⟩:=h.2.2 h0;refine ⟨b,o,rfl,Nat.lt_of_lt_of_le hbw hb.size,fun i hi j hj => ?_⟩
 rw [hb.cell (p:=⟨b,o+8 * i+j,none⟩) hbw];exact hc i hi j hj
theorem mems_nil (w:World) (p:Option Addr):MemsAt w p 0 []:=⟨rfl,fun x hx => by simp at hx,fun h => by omega⟩
theorem MemsAt.cells {w:World} {p:Option Addr} {n:Nat} {xs:List MP} (h:MemsAt w p n xs) {i:Nat} (hi:i < n):∃ b o,p=some ⟨b,o,none⟩∧b < w.heap.size∧BodyAt w (xs.getD i zeroP) ∧
 w.cell? ⟨b,o+8 * i,none⟩=some (.string (str (xs.getD i zeroP).m.path))∧w.cell? ⟨b,o+8 * i+1,none⟩=some (.string (str (xs.getD i zeroP).m.target)) ∧
 w.cell? ⟨b,o+8 * i+2,none⟩=some (.int .u8 ((xs.getD i zeroP).m.kind.toNat:Int))∧w.cell? ⟨b,o+8 * i+3,none⟩=some (.int .i64 (xs.getD i zeroP).m.mode) ∧
 w.cell? ⟨b,o+8 * i+4,none⟩=some (.int .i64 (xs.getD i zeroP).m.uid)∧w.cell? ⟨b,o+8 * i+5,none⟩=some (.int .i64 (xs.getD i zeroP).m.gid) ∧
 w.cell? ⟨b,o+8 * i+6,none⟩=some (.int .i64 (xs.getD i zeroP).m.time)∧w.cell? ⟨b,o+8 * i+7,none⟩=some (.slice (xs.getD i zeroP).p (xs.getD i zeroP).m.body.length (xs.getD i zeroP).c):=by
 obtain ⟨b,o,rfl,hbw,hc⟩:=h.2.2 (by omega)
 have hb:BodyAt w (xs.getD i zeroP):=h.2.1 _ (by
  have hl:i < xs.length:=by rw [h.1];exact hi
  rw [List.getD,List.getElem?_eq_getElem hl]
  exact List.getElem_mem hl)
 exact ⟨b,o,rfl,hbw,hb,hc i hi 0 (by omega),hc i hi 1 (by omega),hc i hi 2 (by omega),hc i hi 3 (by omega),hc i hi 4 (by omega),hc i hi 5 (by omega),hc i hi 6 (by omega),hc i hi 7 (by omega)⟩
theorem infoMem:(Tryd.prog.info? 50).map (fun i => (i.zero,i.size,i.bytes))=some (some (.agg #[.string ⟨#[]⟩,.string ⟨#[]⟩,.int .u8 0,.int .i64 0,.int .i64 0,.int .i64 0,.int .i64 0,.slice none 0 0]),8,96):=by kernel_rfl
theorem run_append_newS {P:Program} {w:World} (base:Nat) (t ty e:TypeId) (i:TypeInfo) (z:Value) (size bytes:Nat) (ht:P.underlying t=some (.slice e)) (hi:P.info? e=some i) (hz:i.zero=some z)
 (hsize:i.size=size) (hby:i.bytes=bytes) (hzs:z.cells.size=size) (hsz:0 < size)
 (v:Value) (n:Nat) (xs:List Value) (hown:w.ownsRow base e size v n xs)
 (a:Addr) (m c:Nat) (news:List Value) (hl:news.length=m * size) (hnews:∀ j u,news[j]? = some u → w.cell? (a.add j)=some u) (h1:∀ u ∈ news,u.oneCell'=true)
 (h63:n+m≤maxLen) (hbytes:(n+m) * bytes≤140737488355328) (hbase:base≤w.heap.size) :
 ∃ v' w',(Builtin.append_ #[t,t] ty #[v,.slice (some a) m c]).run P w=.ok v' w'∧w'.ownsRow base e size v' (n+m) (xs++news)∧w.grownBy w' v.ownBlock∧NewOr w v v':=by
 obtain ⟨v',w',hr,h2,h3,h4⟩:=run_append_own (P:=P) w base t ty e i z size bytes ht hi hz hsize hby hzs hsz v n xs hown a m c news hl hnews h1 h63 hbytes hbase;refine ⟨v',w',hr,h2,h3,?_⟩;have hown':=hown;rcases hown.2 with ⟨rfl,rfl⟩ | ⟨g,cap,cur,rfl,hbg,hg,hnc,hcm,hcs,htake⟩
 ·have hx:xs=[]:=List.eq_nil_of_length_eq_zero (by simpa using hown.1)
  subst hx;obtain ⟨v2,w2,hr2,h22,_,_⟩:=run_append_own (P:=P) w w.heap.size t ty e i z size bytes ht hi hz hsize hby hzs hsz _ 0 [] (World.ownsRow_nil w w.heap.size e size) a m c news hl hnews h1 h63 hbytes (Nat.le_refl _);rw [hr] at hr2
  cases hr2
  exact fun k hk => Or.inr (h22.lt k hk).1
 ·by_cases hroom:n+m≤cap
  ·obtain ⟨w2,hr2,_,_⟩:=run_append_own_spare (P:=P) w base t ty e i size ht hi hsize g n cap xs hown' a m c news hl hnews h1 hroom
   rw [hr] at hr2
   cases hr2
   exact fun k hk => Or.inl hk
  ·have holds:∀ j u,xs[j]? = some u → w.cell? ((⟨g,0,none⟩:Addr).add j)=some u:=hown'.cells (g:=g) rfl
   have hr2:=run_append_grow (P:=P) w t ty e i z ht hi hz ⟨g,0,none⟩ n cap xs (by rw [hsize];exact hown'.1) holds a m c news (by rw [hsize];exact hl) hnews (by omega) (by unfold maxLen at h63;omega) (growslice_fits (by omega) (by rw [hby];exact hbytes))
   rw [hr] at hr2
   cases hr2
   exact fun k hk => Or.inr (by simp [Value.ownBlock] at hk;omega)
end Go.Proofs.YtfhelebejclalaaDoor.Mem
end
section
namespace Go.Proofs.YtfhelebejclalaaDoor.Mem
open Go.ChangeShapes Go.WideShapes Go.ChangeAt Go.RowKit Base Byt Txt Bk Go.Lib
set_option linter.unusedVariables false
set_option maxRecDepth 100000
theorem takeP_succ (xs:List MP) (k:Nat) (h:k < xs.length):(xs.take (k+1)).map MP.m=(xs.take k).map MP.m++[(xs.getD k zeroP).m]:=by
 rw [List.take_succ_eq_append_getElem h,List.map_append,List.getD,List.getElem?_eq_getElem h];rfl
theorem getP_mem (xs:List MP) (k:Nat) (h:k < xs.length):xs.getD k zeroP ∈ xs:=by
 rw [List.getD,List.getElem?_eq_getElem h];exact List.getElem_mem h
theorem bat_lt {w:World} {p:Option Addr} {m:Nat} {bs:List UInt8} (h:BAt w p m bs) (h0:0 < m) {y:Addr} (hy:p=some y):y.block < w.heap.size:=by
 obtain ⟨b,o,he,hb,_⟩:=h.cell h0;rw [hy] at he
 cases he
 exact hb
def Cells8 (w:World) (b o:Nat) (y:MP):Prop:=
 w.cell? ⟨b,o,none⟩=some (.string (str y.m.path))∧w.cell? ⟨b,o+1,none⟩=some (.string (str y.m.target))∧w.cell? ⟨b,o+2,none⟩=some (.int .u8 (y.m.kind.toNat:Int))∧w.cell? ⟨b,o+3,none⟩=some (.int .i64 y.m.mode) ∧
 w.cell? ⟨b,o+4,none⟩=some (.int .i64 y.m.uid)∧w.cell? ⟨b,o+5,none⟩=some (.int .i64 y.m.gid)∧w.cell? ⟨b,o+6,none⟩=some (.int .i64 y.m.time)∧w.cell? ⟨b,o+7,none⟩=some (.slice y.p y.m.body.length y.c)
theorem Cells8.below {w w':World} {b o:Nat} {y:MP} (h:Cells8 w b o y) (hb:b < w.heap.size) (hw:Below w.heap.size w w'):Cells8 w' b o y:=by
 unfold Cells8 at h ⊢;simp only [hw.cell (p:=⟨b,_,none⟩) hb];exact h
theorem MemsAt.cells8 {w:World} {p:Option Addr} {n:Nat} {xs:List MP} (h:MemsAt w p n xs) {i:Nat} (hi:i < n):∃ b o,p=some ⟨b,o,none⟩∧b < w.heap.size∧BodyAt w (xs.getD i zeroP)∧Cells8 w b (o+i * 8) (xs.getD i zeroP):=by
 obtain ⟨b,o,hp,hb,hB,c0,c1,c2,c3,c4,c5,c6,c7⟩:=h.cells hi;rw [Nat.mul_comm] at c0 c1 c2 c3 c4 c5 c6 c7;exact ⟨b,o,hp,hb,hB,c0,c1,c2,c3,c4,c5,c6,c7⟩
end Go.Proofs.YtfhelebejclalaaDoor.Mem
end
section
namespace Go.Proofs.YtfhelebejclalaaDoor.Tre
open Go.ChangeShapes Go.WideShapes Go.ChangeAt Go.RowKit Base Byt Txt Bk Mem Go.Lib
set_option linter.unusedVariables false
set_option maxRecDepth 100000
structure NP where
 m:NodeV
 p:Option Addr
 c:Nat
def zeroQ:NP:=⟨zeroN,none,0⟩
def nodC (m:NodeV) (p:Option Addr) (c:Nat):Array Value:=#[.string (str m.path),.string (str m.target),.string (str m.leader),.int .u8 (m.kind.toNat:Int),.int .i64 m.mode,.int .i64 m.uid,.int .i64 m.gid,.int .i64 m.time,.slice p m.body.length c]
def NP.cs (x:NP):Array Value:=nodC x.m x.p x.c
theorem NP.cs_list (x:NP):x.cs.toList=[.string (str x.m.path),.string (str x.m.target),.string (str x.m.leader),.int .u8 (x.m.kind.toNat:Int),.int .i64 x.m.mode,.int .i64 x.m.uid,.int .i64 x.m.gid,.int .i64 x.m.time,.slice x.p x.m.body.length x.c]:=rfl
structure BodAt (w:World) (x:NP):Prop where
 bat:BAt w x.p x.m.body.length x.m.body
 le:x.m.body.length≤x.c
 mx:x.c≤maxLen
theorem BodAt.kept {S:Nat → Prop} {w w':World} {x:NP} (h:BodAt w x) (hk:Kept S w w') (hn:0 < x.m.body.length → ∀ a,x.p=some a → ¬ S a.block):BodAt w' x:=⟨h.bat.kept hk hn,h.le,h.mx⟩
theorem BodAt.below {w w':World} {x:NP} (h:BodAt w x) (hb:Below w.heap.size w w'):BodAt w' x:=⟨h.bat.below hb,h.le,h.mx⟩
def flatN (xs:List NP):List Value:=xs.flatMap fun x => x.cs.toList
theorem flatN_cons (x:NP) (xs:List NP):flatN (x :: xs)=x.cs.toList++flatN xs:=rfl
theorem flatN_length (xs:List NP):(flatN xs).length=9 * xs.length:=by
 induction xs with
 | nil => rfl
 | cons x xs ih => rw [flatN_cons,List.length_append,ih,NP.cs_list,List.length_cons];simp only [List.length_cons,List.length_nil];omega
theorem flatN_get (xs:List NP):∀ i,i < xs.length → ∀ j,j < 9 → (flatN xs)[9 * i+j]? = (xs.getD i zeroQ).cs[j]?:=by
 induction xs with
 | nil => intro i h;simp at h
 | cons x xs ih =>
   intro i h j hj;rw [flatN_cons];have hl:x.cs.toList.length=9:=rfl
   cases i with
   | zero => rw [List.getElem?_append_left (by omega),show 9 * 0+j=j by omega,Array.getElem?_toList];rfl
   | succ i =>
     rw [List.getElem?_append_right (by omega),hl,show 9 * (i+1)+j - 9=9 * i+j by omega,ih i (by simpa using h) j hj]
     rfl
def NodesAt (w:World) (p:Option Addr) (n:Nat) (xs:List NP):Prop:=
 xs.length=n∧(∀ x ∈ xs,BodAt w x)∧(0 < n → ∃ b o,p=some ⟨b,o,none⟩∧b < w.heap.size ∧ ∀ i,i < n → ∀ j,j < 9 → w.cell? ⟨b,o+9 * i+j,none⟩=(xs.getD i zeroQ).cs[j]?)
theorem NodesAt.below {w w':World} {p:Option Addr} {n:Nat} {xs:List NP} (h:NodesAt w p n xs) (hb:Below w.heap.size w w'):NodesAt w' p n xs:=by
 refine ⟨h.1,fun x hx => (h.2.1 x hx).below hb,fun h0 => ?_⟩
 obtain ⟨b,o,rfl,hbw,hc⟩:=h.2.2 h0;refine ⟨b,o,rfl,Nat.lt_of_lt_of_le hbw hb.size,fun i hi j hj => ?_⟩
 rw [hb.cell (p:=⟨b,o+9 * i+j,none⟩) hbw];exact hc i hi j hj
theorem nodes_nil (w:World) (p:Option Addr):NodesAt w p 0 []:=⟨rfl,fun x hx => by simp at hx,fun h => by omega⟩
def Cells9 (w:World) (b o:Nat) (y:NP):Prop:=
 w.cell? ⟨b,o,none⟩=some (.string (str y.m.path))∧w.cell? ⟨b,o+1,none⟩=some (.string (str y.m.target))∧w.cell? ⟨b,o+2,none⟩=some (.string (str y.m.leader))∧w.cell? ⟨b,o+3,none⟩=some (.int .u8 (y.m.kind.toNat:Int))∧w.cell? ⟨b,o+4,none⟩=some (.int .i64 y.m.mode) ∧
 w.cell? ⟨b,o+5,none⟩=some (.int .i64 y.m.uid)∧w.cell? ⟨b,o+6,none⟩=some (.int .i64 y.m.gid)∧w.cell? ⟨b,o+7,none⟩=some (.int .i64 y.m.time)∧w.cell? ⟨b,o+8,none⟩=some (.slice y.p y.m.body.length y.c)
theorem Cells9.below {w w':World} {b o:Nat} {y:NP} (h:Cells9 w b o y) (hb:b < w.heap.size) (hw:Below w.heap.size w w'):Cells9 w' b o y:=by
 unfold Cells9 at h ⊢;simp only [hw.cell (p:=⟨b,_,none⟩) hb];exact h
theorem NodesAt.cells9 {w:World} {p:Option Addr} {n:Nat} {xs:List NP} (h:NodesAt w p n xs) {i:Nat} (hi:i < n):∃ b o,p=some ⟨b,o,none⟩∧b < w.heap.size∧BodAt w (xs.getD i zeroQ)∧Cells9 w b (o+i * 9) (xs.getD i zeroQ):=by
 obtain ⟨b,o,rfl,hbw,hc⟩:=h.2.2 (by omega)
 have hb:BodAt w (xs.getD i zeroQ):=h.2.1 _ (by
  have hl:i < xs.length:=by rw [h.1];exact hi
  rw [List.getD,List.getElem?_eq_getElem hl]
  exact List.getElem_mem hl)
 rw [Nat.mul_comm i 9];exact ⟨b,o,rfl,hbw,hb,hc i hi 0 (by omega),hc i hi 1 (by omega),hc i hi 2 (by omega),hc i hi 3 (by omega),hc i hi 4 (by omega),hc i hi 5 (by omega),hc i hi 6 (by omega),hc i hi 7 (by omega),hc i hi 8 (by omega)⟩
theorem cells9_of {w:World} {b:Nat} {y:NP} (h:Blk w b 45 y.cs):Cells9 w b 0 y:=by
 refine ⟨h.cell 0,h.cell 1,h.cell 2,h.cell 3,h.cell 4,h.cell 5,h.cell 6,h.cell 7,h.cell 8⟩
theorem takeN_succ (xs:List NP) (k:Nat) (h:k < xs.length):(xs.take (k+1)).map NP.m=(xs.take k).map NP.m++[(xs.getD k zeroQ).m]:=by
 rw [List.take_succ_eq_append_getElem h,List.map_append,List.getD,List.getElem?_eq_getElem h];rfl
theorem getN_mem (xs:List NP) (k:Nat) (h:k < xs.length):xs.getD k zeroQ ∈ xs:=by
 rw [List.getD,List.getElem?_eq_getElem h];exact List.getElem_mem h
theorem getN_map (xs:List NP) (k:Nat):(xs.map NP.m).getD k zeroN=(xs.getD k zeroQ).m:=by
 rw [List.getD,List.getD,List.getElem?_map]
 cases xs[k]?<;>rfl
theorem NodesAt.drop {w:World} {p:Option Addr} {n:Nat} {xs:List NP} (h:NodesAt w p n xs) {k:Nat} (hk:k≤n):NodesAt w p k (xs.take k):=by
 refine ⟨by rw [List.length_take,h.1];omega,fun x hx => h.2.1 x (List.mem_of_mem_take hx),fun h0 => ?_⟩
 obtain ⟨b,o,rfl,hb,hc⟩:=h.2.2 (by omega)
 refine ⟨b,o,rfl,hb,fun i hi j hj => ?_⟩
 rw [hc i (by omega) j hj]
 congr 2
 simp [List.getD,hi]
theorem nodes_same (xs ys:List NP) (hl:xs.length=ys.length) (h:∀ j,j < xs.length → (xs.getD j zeroQ).m=(ys.getD j zeroQ).m):xs.map NP.m=ys.map NP.m:=by
 apply List.ext_getElem (by simpa using hl)
 intro i h1 h2;simp only [List.length_map] at h1 h2;have:=h i h1;rw [List.getD,List.getD,List.getElem?_eq_getElem h1,List.getElem?_eq_getElem h2] at this
 simpa using this
theorem nodes_differ (xs ys:List NP) (j:Nat) (hj:j < xs.length) (hj2:j < ys.length) (h:(xs.getD j zeroQ).m≠(ys.getD j zeroQ).m):¬ xs.map NP.m=ys.map NP.m:=fun he => h (by
 have:=congrArg (fun l => l[j]?) he
 simp only [List.getElem?_map,List.getElem?_eq_getElem hj,List.getElem?_eq_getElem hj2,Option.map_some,Option.some.injEq] at this;rw [List.getD,List.getD,List.getElem?_eq_getElem hj,List.getElem?_eq_getElem hj2]
 simpa using this)
theorem infoNod:(Tryd.prog.info? 45).map (fun i => (i.zero,i.size,i.bytes))=some (some (.agg #[.string ⟨#[]⟩,.string ⟨#[]⟩,.string ⟨#[]⟩,.int .u8 0,.int .i64 0,.int .i64 0,.int .i64 0,.int .i64 0,.slice none 0 0]),9,112):=by kernel_rfl
end Go.Proofs.YtfhelebejclalaaDoor.Tre
end
section
namespace Go.Proofs.YtfhelebejclalaaDoor.Tre
open Go.ChangeShapes Go.WideShapes Go.ChangeAt Go.RowKit Base Byt Txt Bk Mem Go.Lib
set_option linter.unusedVariables false
set_option maxRecDepth 100000
def Rw (W:World) (g:Nat) (zs:List NP):Prop:=Blk W g 45 (flatN zs).toArray
theorem flatN_ext {ar:Array Value} {zs:List NP} (hs:ar.size=9 * zs.length) (h:∀ i,i < zs.length → ∀ j,j < 9 → ar[9 * i+j]? = (zs.getD i zeroQ).cs[j]?):ar=(flatN zs).toArray:=by
 apply Array.ext
 ·rw [hs];simp [flatN_length]
 ·intro i h1 h2
  have hi:i / 9 < zs.length:=by omega
  have e:9 * (i / 9)+i % 9=i:=by omega
  have a1:=h (i / 9) hi (i % 9) (by omega)
  have a2:=flatN_get zs (i / 9) hi (i % 9) (by omega)
  rw [e] at a1 a2;have:ar[i]? = (flatN zs).toArray[i]?:=by rw [a1,← a2,List.getElem?_toArray]
  rw [Array.getElem?_eq_getElem h1,Array.getElem?_eq_getElem h2] at this;exact Option.some.inj this
theorem Rw.nodes {W:World} {g:Nat} {zs:List NP} (h:Rw W g zs) (hb:∀ x ∈ zs,BodAt W x):NodesAt W (some ⟨g,0,none⟩) zs.length zs:=
 ⟨rfl,hb,fun _ => ⟨g,0,rfl,Blk.lt h,fun i hi j hj => by rw [Nat.zero_add,Blk.cell h,List.getElem?_toArray,flatN_get zs i hi j hj]⟩⟩
theorem Rw.cells9 {W:World} {g:Nat} {zs:List NP} (h:Rw W g zs) {k:Nat} (hk:k < zs.length):Cells9 W g (k * 9) (zs.getD k zeroQ):=by
 have key:∀ j,j < 9 → W.cell? ⟨g,k * 9+j,none⟩=(zs.getD k zeroQ).cs[j]?:=fun j hj => by
  rw [Blk.cell h,List.getElem?_toArray,Nat.mul_comm,flatN_get zs k hk j hj]
 exact ⟨key 0 (by omega),key 1 (by omega),key 2 (by omega),key 3 (by omega),key 4 (by omega),key 5 (by omega),key 6 (by omega),key 7 (by omega),key 8 (by omega)⟩
theorem getSet (zs:List NP) (k i:Nat) (y:NP) (hk:k < zs.length):(zs.set k y).getD i zeroQ=if i=k then y else zs.getD i zeroQ:=by
 rw [List.getD,List.getD,List.getElem?_set]
 by_cases h:k=i
 ·subst h
  simp [hk]
 ·rw [if_neg h,if_neg (fun e => h e.symm)]
theorem flat_size (zs:List NP):(flatN zs).toArray.size=9 * zs.length:=by simp [flatN_length]
theorem blk_setIf {W:World} {b:Nat} {t:TypeId} {cs:Array Value} (h:Blk W b t cs) (i:Nat) (v:Value):Blk (W.setCell ⟨b,i,none⟩ v) b t (cs.setIfInBounds i v):=by
 obtain ⟨hl,he⟩:=Array.getElem?_eq_some_iff.1 h;unfold Blk World.setCell;refine Array.getElem?_eq_some_iff.2 ⟨by simpa using hl,?_⟩
 rw [Array.getElem_modify,if_pos rfl,he];rfl
def setN (A:Array Value) (b:Nat):List Value → Array Value
 | [] => A
 | v :: vs => setN (A.setIfInBounds b v) (b+1) vs
theorem setN_size (vs:List Value):∀ (A:Array Value) (b:Nat),(setN A b vs).size=A.size:=by
 induction vs with
 | nil => intro A b;rfl
 | cons v vs ih => intro A b;rw [setN,ih];simp
theorem setN_get (vs:List Value):∀ (A:Array Value) (b m:Nat),b+vs.length≤A.size → (setN A b vs)[m]? = if b≤m∧m < b+vs.length then vs[m - b]? else A[m]?:=by
 induction vs with
 | nil => intro A b m _;rw [setN,if_neg (by simp only [List.length_nil];omega)]
 | cons v vs ih =>
   intro A b m h;rw [List.length_cons] at h;rw [setN,ih _ _ _ (by simp;omega),List.length_cons,Array.getElem?_setIfInBounds]
   by_cases h1:b=m
   ·subst h1
    rw [if_neg (by omega),if_pos rfl,if_pos (by omega),if_pos (by omega)]
    simp
   ·rw [if_neg h1]
    by_cases h2:b+1≤m∧m < b+1+vs.length
    ·rw [if_pos h2,if_pos (by omega),show m - b=(m - (b+1))+1 by omega,List.getElem?_cons_succ]
    ·rw [if_neg h2,if_neg (by omega)]
theorem Rw.set {W:World} {g:Nat} {zs:List NP} (h:Rw W g zs) {k:Nat} (hk:k < zs.length) (y:NP) :
 Rw (((((((((W.setCell ⟨g,k * 9,none⟩ (.string (str y.m.path))).setCell ⟨g,k * 9+1,none⟩ (.string (str y.m.target))).setCell ⟨g,k * 9+2,none⟩ (.string (str y.m.leader))).setCell ⟨g,k * 9+3,none⟩ (.int .u8 (y.m.kind.toNat:Int))).setCell ⟨g,k * 9+4,none⟩ (.int .i64 y.m.mode)).setCell ⟨g,k * 9+5,none⟩ (.int .i64 y.m.uid)).setCell ⟨g,k * 9+6,none⟩ (.int .i64 y.m.gid)).setCell ⟨g,k * 9+7,none⟩ (.int .i64 y.m.time)).setCell ⟨g,k * 9+8,none⟩ (.slice y.p y.m.body.length y.c)) g (zs.set k y):=by
 have hs:=flat_size zs;have hb:Blk W g 45 (flatN zs).toArray:=h;have hr:=(blk_setIf (blk_setIf (blk_setIf (blk_setIf (blk_setIf (blk_setIf (blk_setIf (blk_setIf (blk_setIf hb (k * 9) (.string (str y.m.path))) (k * 9+1) (.string (str y.m.target))) (k * 9+2) (.string (str y.m.leader))) (k * 9+3) (.int .u8 (y.m.kind.toNat:Int))) (k * 9+4) (.int .i64 y.m.mode)) (k * 9+5) (.int .i64 y.m.uid)) (k * 9+6) (.int .i64 y.m.gid)) (k * 9+7) (.int .i64 y.m.time)) (k * 9+8) (.slice y.p y.m.body.length y.c))
 have e:setN (flatN zs).toArray (k * 9) y.cs.toList=(flatN (zs.set k y)).toArray:=by
  apply flatN_ext
  ·rw [setN_size,List.length_set];exact hs
  ·intro i hi j hj
   rw [List.length_set] at hi;have hl:y.cs.toList.length=9:=rfl;rw [getSet zs k i y hk,setN_get _ _ _ _ (by rw [hl,hs];omega),hl]
   by_cases hik:i=k
   ·subst hik
    rw [if_pos rfl,if_pos (by omega),show 9 * i+j - i * 9=j by omega,Array.getElem?_toList]
   ·rw [if_neg hik,if_neg (by omega),List.getElem?_toArray,flatN_get zs i hi j hj]
 unfold Rw;rw [← e];exact hr
theorem rw_other {W:World} {b g k:Nat} {t:TypeId} {cs:Array Value} (hb:Blk W b t cs) (hne:g≠b) (a0 a1 a2 a3 a4 a5 a6 a7 a8:Value) :
 Blk (((((((((W.setCell ⟨g,k * 9,none⟩ a0).setCell ⟨g,k * 9+1,none⟩ a1).setCell ⟨g,k * 9+2,none⟩ a2).setCell ⟨g,k * 9+3,none⟩ a3).setCell ⟨g,k * 9+4,none⟩ a4).setCell ⟨g,k * 9+5,none⟩ a5).setCell ⟨g,k * 9+6,none⟩ a6).setCell ⟨g,k * 9+7,none⟩ a7).setCell ⟨g,k * 9+8,none⟩ a8) b t cs:=
 (((((((((hb.other hne a0).other hne a1).other hne a2).other hne a3).other hne a4).other hne a5).other hne a6).other hne a7).other hne a8)
theorem rw_kept {W:World} {S:Nat → Prop} {g k:Nat} (hg:S g) (a0 a1 a2 a3 a4 a5 a6 a7 a8:Value) :
 Kept S W (((((((((W.setCell ⟨g,k * 9,none⟩ a0).setCell ⟨g,k * 9+1,none⟩ a1).setCell ⟨g,k * 9+2,none⟩ a2).setCell ⟨g,k * 9+3,none⟩ a3).setCell ⟨g,k * 9+4,none⟩ a4).setCell ⟨g,k * 9+5,none⟩ a5).setCell ⟨g,k * 9+6,none⟩ a6).setCell ⟨g,k * 9+7,none⟩ a7).setCell ⟨g,k * 9+8,none⟩ a8):=
 ((((((((((Kept.refl S W).setCell (a:=⟨g,k * 9,none⟩) (.inr hg) a0).setCell (a:=⟨g,k * 9+1,none⟩) (.inr hg) a1).setCell (a:=⟨g,k * 9+2,none⟩) (.inr hg) a2).setCell (a:=⟨g,k * 9+3,none⟩) (.inr hg) a3).setCell (a:=⟨g,k * 9+4,none⟩) (.inr hg) a4).setCell (a:=⟨g,k * 9+5,none⟩) (.inr hg) a5).setCell (a:=⟨g,k * 9+6,none⟩) (.inr hg) a6).setCell (a:=⟨g,k * 9+7,none⟩) (.inr hg) a7).setCell (a:=⟨g,k * 9+8,none⟩) (.inr hg) a8)
theorem Rw.lead {W:World} {g:Nat} {zs:List NP} (h:Rw W g zs) {k:Nat} (hk:k < zs.length) (l:List UInt8) :
 Rw (W.setCell ⟨g,k * 9+2,none⟩ (.string (str l))) g (zs.set k ⟨{ (zs.getD k zeroQ).m with leader:=l },(zs.getD k zeroQ).p,(zs.getD k zeroQ).c⟩):=by
 have hs:=flat_size zs;have hb:Blk W g 45 (flatN zs).toArray:=h;have:=hb.set (k * 9+2) (.string (str l)) (by omega)
 unfold Rw;rw [← flatN_ext (ar:=_) (zs:=zs.set k ⟨{ (zs.getD k zeroQ).m with leader:=l },(zs.getD k zeroQ).p,(zs.getD k zeroQ).c⟩) ?_ ?_]
 ·exact this
 ·simp only [Array.size_set,List.length_set];exact hs
 ·intro i hi j hj
  rw [List.length_set] at hi;rw [getSet zs k i _ hk,Array.getElem?_set]
  by_cases hik:i=k
  ·subst hik
   rw [if_pos rfl]
   by_cases hj2:j=2
   ·subst hj2
    rw [if_pos (by omega)];rfl
   ·rw [if_neg (by omega),List.getElem?_toArray,flatN_get zs i hi j hj]
    match j,hj,hj2 with
    | 0,_,_ => rfl
    | 1,_,_ => rfl
    | 3,_,_ => rfl
    | 4,_,_ => rfl
    | 5,_,_ => rfl
    | 6,_,_ => rfl
    | 7,_,_ => rfl
    | 8,_,_ => rfl
  ·rw [if_neg hik,if_neg (by omega),List.getElem?_toArray,flatN_get zs i hi j hj]
theorem made_nodes (n:Nat):(madeCells #[.string ⟨#[]⟩,.string ⟨#[]⟩,.string ⟨#[]⟩,.int .u8 0,.int .i64 0,.int .i64 0,.int .i64 0,.int .i64 0,.slice none 0 0] (n * 9))=(flatN (List.replicate n zeroQ)).toArray:=by
 apply flatN_ext
 ·rw [size_madeCells,List.length_replicate];omega
 ·intro i hi j hj
  rw [List.length_replicate] at hi
  have e:(List.replicate n zeroQ).getD i zeroQ=zeroQ:=by
   rw [List.getD,List.getElem?_replicate,if_pos hi];rfl
  rw [e];unfold madeCells;rw [Array.getElem?_map,Array.getElem?_range,if_pos (by omega)]
  simp only [Option.map_some];rw [show (9 * i+j) % (#[Value.string ⟨#[]⟩,.string ⟨#[]⟩,.string ⟨#[]⟩,.int .u8 0,.int .i64 0,.int .i64 0,.int .i64 0,.int .i64 0,.slice none 0 0]:Array Value).size=j by show (9 * i+j) % 9=j;omega]
  match j,hj with
  | 0,_ => rfl
  | 1,_ => rfl
  | 2,_ => rfl
  | 3,_ => rfl
  | 4,_ => rfl
  | 5,_ => rfl
  | 6,_ => rfl
  | 7,_ => rfl
  | 8,_ => rfl
theorem rw_made {w':World} {B g n:Nat} (h:w'.ownsRow B 45 9 (.slice (some ⟨g,0,none⟩) n n) n (flatN (List.replicate n zeroQ))):Rw w' g (List.replicate n zeroQ):=by
 rcases h.2 with ⟨h1,_⟩ | ⟨g',cap,cur,h1,_,hg,h2,h3,h4,h5⟩
 ·cases h1
 ·cases h1
  unfold Rw Blk
  have:cur=(flatN (List.replicate n zeroQ)).toArray:=by
   apply Array.toList_inj.1;rw [← h5,List.take_of_length_le (by simp;omega)]
  rw [← this];exact hg
end Go.Proofs.YtfhelebejclalaaDoor.Tre
end
section
namespace Go.Proofs.YtfhelebejclalaaDoor.Tre
open Go.ChangeShapes Go.WideShapes Go.ChangeAt Go.RowKit Base Byt Txt Bk Mem Go.Lib
set_option linter.unusedVariables false
set_option maxRecDepth 100000
def Rm (W:World) (g:Nat) (ys:List MP):Prop:=∃ cur,Blk W g 50 cur∧8 * ys.length≤cur.size ∧ ∀ i,i < ys.length → ∀ j,j < 8 → cur[8 * i+j]? = (ys.getD i zeroP).cs[j]?
theorem Rm.cells8 {W:World} {g:Nat} {ys:List MP} (h:Rm W g ys) {k:Nat} (hk:k < ys.length):Cells8 W g (k * 8) (ys.getD k zeroP):=by
 obtain ⟨cur,hb,_,hc⟩:=h
 have key:∀ j,j < 8 → W.cell? ⟨g,k * 8+j,none⟩=(ys.getD k zeroP).cs[j]?:=fun j hj => by
  rw [hb.cell,Nat.mul_comm,hc k hk j hj]
 exact ⟨key 0 (by omega),key 1 (by omega),key 2 (by omega),key 3 (by omega),key 4 (by omega),key 5 (by omega),key 6 (by omega),key 7 (by omega)⟩
theorem getP_eq {ys:List MP} {k:Nat} (hk:k < ys.length):ys.getD k zeroP=ys[k]:=by rw [List.getD,List.getElem?_eq_getElem hk];rfl
theorem getSetP (ys:List MP) (k i:Nat) (y:MP) (hk:k < ys.length):(ys.set k y).getD i zeroP=if i=k then y else ys.getD i zeroP:=by
 rw [List.getD,List.getD,List.getElem?_set]
 by_cases h:k=i
 ·subst h
  simp [hk]
 ·rw [if_neg h,if_neg (fun e => h e.symm)]
theorem Rm.mems {W:World} {g:Nat} {ys:List MP} (h:Rm W g ys) (hb:∀ y ∈ ys,BodyAt W y):MemsAt W (some ⟨g,0,none⟩) ys.length ys:=by
 obtain ⟨cur,hB,_,hc⟩:=h;exact ⟨rfl,hb,fun _ => ⟨g,0,rfl,hB.lt,fun i hi j hj => by rw [Nat.zero_add,hB.cell,hc i hi j hj]⟩⟩
def put8 (W:World) (g o:Nat) (y:MP):World:=(((((((W.setCell ⟨g,o,none⟩ (.string (str y.m.path))).setCell ⟨g,o+1,none⟩ (.string (str y.m.target))).setCell ⟨g,o+2,none⟩ (.int .u8 (y.m.kind.toNat:Int))).setCell ⟨g,o+3,none⟩ (.int .i64 y.m.mode)).setCell ⟨g,o+4,none⟩ (.int .i64 y.m.uid)).setCell ⟨g,o+5,none⟩ (.int .i64 y.m.gid)).setCell ⟨g,o+6,none⟩ (.int .i64 y.m.time)).setCell ⟨g,o+7,none⟩ (.slice y.p y.m.body.length y.c)
theorem Rm.set {W:World} {g:Nat} {ys:List MP} (h:Rm W g ys) {k:Nat} (hk:k < ys.length) (y:MP):Rm (put8 W g (k * 8) y) g (ys.set k y):=by
 obtain ⟨cur,hb,hs,hc⟩:=h;have hr:=(blk_setIf (blk_setIf (blk_setIf (blk_setIf (blk_setIf (blk_setIf (blk_setIf (blk_setIf hb (k * 8) (.string (str y.m.path))) (k * 8+1) (.string (str y.m.target))) (k * 8+2) (.int .u8 (y.m.kind.toNat:Int))) (k * 8+3) (.int .i64 y.m.mode)) (k * 8+4) (.int .i64 y.m.uid)) (k * 8+5) (.int .i64 y.m.gid)) (k * 8+6) (.int .i64 y.m.time)) (k * 8+7) (.slice y.p y.m.body.length y.c))
 have e:setN cur (k * 8) y.cs.toList=((((((((cur.setIfInBounds (k * 8) (.string (str y.m.path))).setIfInBounds (k * 8+1) (.string (str y.m.target))).setIfInBounds (k * 8+2) (.int .u8 (y.m.kind.toNat:Int))).setIfInBounds (k * 8+3) (.int .i64 y.m.mode)).setIfInBounds (k * 8+4) (.int .i64 y.m.uid)).setIfInBounds (k * 8+5) (.int .i64 y.m.gid)).setIfInBounds (k * 8+6) (.int .i64 y.m.time)).setIfInBounds (k * 8+7) (.slice y.p y.m.body.length y.c)):=by
  rw [MP.cs_list];simp only [setN,Nat.add_assoc,Nat.reduceAdd]
 refine ⟨setN cur (k * 8) y.cs.toList,by unfold put8;rw [e];exact hr,by rw [setN_size,List.length_set];exact hs,fun i hi j hj => ?_⟩
 rw [List.length_set] at hi;have hl:y.cs.toList.length=8:=rfl;rw [getSetP ys k i y hk,setN_get _ _ _ _ (by rw [hl];omega),hl]
 by_cases hik:i=k
 ·subst hik
  rw [if_pos rfl,if_pos (by omega),show 8 * i+j - i * 8=j by omega,Array.getElem?_toList]
 ·rw [if_neg hik,if_neg (by omega),hc i hi j hj]
theorem put8_kept {W:World} {S:Nat → Prop} {g o:Nat} (hg:S g) (y:MP):Kept S W (put8 W g o y):=
 ((((((((Kept.refl S W).setCell (a:=⟨g,o,none⟩) (.inr hg) _).setCell (a:=⟨g,o+1,none⟩) (.inr hg) _).setCell (a:=⟨g,o+2,none⟩) (.inr hg) _).setCell (a:=⟨g,o+3,none⟩) (.inr hg) _).setCell (a:=⟨g,o+4,none⟩) (.inr hg) _).setCell (a:=⟨g,o+5,none⟩) (.inr hg) _).setCell (a:=⟨g,o+6,none⟩) (.inr hg) _).setCell (a:=⟨g,o+7,none⟩) (.inr hg) _
theorem rm_below {W W':World} {g:Nat} {ys:List MP} (h:Rm W g ys) (hb:Below W.heap.size W W'):Rm W' g ys:=by
 obtain ⟨cur,h1,h2,h3⟩:=h;exact ⟨cur,h1.below hb h1.lt,h2,h3⟩
end Go.Proofs.YtfhelebejclalaaDoor.Tre
end
section
namespace Go.Proofs.YtfhelebejclalaaDoor.Lnk
open Go.ChangeShapes Go.WideShapes Go.ChangeAt Go.RowKit Base Byt Txt Bk Mem Tre Go.Lib
set_option linter.unusedVariables false
set_option maxRecDepth 100000
def flatS (ss:List (List UInt8)):List Value:=ss.map fun s => .string (str s)
theorem flatS_app (a b:List (List UInt8)):flatS (a++b)=flatS a++flatS b:=by simp [flatS]
theorem flatS_get (ss:List (List UInt8)) {i:Nat} (hi:i < ss.length):(flatS ss)[i]? = some (.string (str (ss.getD i []))):=by
 unfold flatS;rw [List.getElem?_map,List.getD,List.getElem?_eq_getElem hi];rfl
def StrsAt (w:World) (p:Option Addr) (n:Nat) (ss:List (List UInt8)):Prop:=
 ss.length=n∧(0 < n → ∃ b o,p=some ⟨b,o,none⟩∧b < w.heap.size ∧ ∀ i,i < n → w.cell? ⟨b,o+i,none⟩=some (.string (str (ss.getD i []))))
theorem StrsAt.below {w w':World} {p:Option Addr} {n:Nat} {ss:List (List UInt8)} (h:StrsAt w p n ss) (hb:Below w.heap.size w w'):StrsAt w' p n ss:=by
 refine ⟨h.1,fun h0 => ?_⟩
 obtain ⟨b,o,rfl,hbw,hc⟩:=h.2 h0;refine ⟨b,o,rfl,Nat.lt_of_lt_of_le hbw hb.size,fun i hi => ?_⟩
 rw [hb.cell (p:=⟨b,o+i,none⟩) hbw];exact hc i hi
theorem strs_nil (w:World) (p:Option Addr):StrsAt w p 0 []:=⟨rfl,fun h => by omega⟩
theorem strs_own {w:World} {base:Nat} {e:TypeId} {v:Value} {ss:List (List UInt8)} (h:w.ownsRow base e 1 v ss.length (flatS ss)):∃ p c,v=.slice p ss.length c∧ss.length≤c∧c≤maxLen∧StrsAt w p ss.length ss:=by
 rcases h.2 with ⟨rfl,h0⟩ | ⟨g,cap,cur,rfl,hb,hg,hn,hc,hs,ht⟩
 ·exact ⟨none,0,by rw [h0],by omega,by decide,rfl,fun h => by omega⟩
 ·refine ⟨some ⟨g,0,none⟩,cap,rfl,hn,hc,rfl,fun h0 => ⟨g,0,rfl,(Array.getElem?_eq_some_iff.1 hg).1,fun i hi => ?_⟩⟩
  unfold World.cell?;rw [hg,Nat.zero_add,← flatS_get ss hi,← ht,List.getElem?_take,if_pos (by omega)]
  simp
theorem infoStr:(Tryd.prog.info? 9).map (fun i => (i.zero,i.size,i.bytes))=some (some (.string ⟨#[]⟩),1,16):=by kernel_rfl
theorem append_str {w:World} {ops:Array Oper} {rest:List Oper} {o:Oper} {a:Act} {Q:Exit → Act → World → Prop} (hgd:o.guard=none) (s x:Operand)
 (ho:o.op=.call { callee:=.builtin .append,args:=#[s,x],argTypes:=#[26,26] })
 (base:Nat) (v:Value) (ss:List (List UInt8)) (hs:a.eval s=v) (hown:w.ownsRow base 9 1 v ss.length (flatS ss))
 (b:Nat) (c:Nat) (y:List UInt8) (hx:a.eval x=.slice (some ⟨b,0,none⟩) 1 c) (hb:Blk w b 9 #[.string (str y)]) (hsum:ss.length≤1000000) (hbase:base≤w.heap.size)
 (h:∀ v' w',w'.ownsRow base 9 1 v' (ss++[y]).length (flatS (ss++[y])) → w.grownBy w' v.ownBlock → NewOr w v v' → wpList Tryd.prog ops Q rest (a.put o.dst v') w'):wpList Tryd.prog ops Q (o :: rest) a w:=by
 obtain ⟨i0,hi,hz0,hz1,hz2⟩:=info_parts infoStr
 obtain ⟨v',w',hr,h2,h3,h4⟩:=run_append_newS (P:=Tryd.prog) base 26 o.type 9 i0 _ 1 16 Tryd.underlying26 hi hz0 hz1 hz2 rfl (by decide) v ss.length (flatS ss) hown ⟨b,0,none⟩ 1 c [.string (str y)] rfl (by
  intro j u hj;rw [WideShapes.add_plain,Nat.zero_add,hb.cell,← Array.getElem?_toList]
  exact hj) (fun u hu => by rw [List.mem_singleton.1 hu];rfl) (by unfold maxLen;omega) (by omega) hbase
 refine wpList_plain hgd fun K hK => ?_
 unfold Oper.wp;simp [execOp,ho,resolve,invoke,builtin,hs,hx,hr,Result.andThen];have e:flatS ss++[.string (str y)]=flatS (ss++[y]):=by rw [flatS_app];rfl
 rw [e,show ss.length+1=(ss++[y]).length by simp] at h2
 exact hK _ _ (h v' w' h2 h3 h4)
def Rs (W:World) (g:Nat) (ss:List (List UInt8)):Prop:=∃ cur,Blk W g 9 cur∧ss.length≤cur.size ∧ ∀ i,i < ss.length → cur[i]? = some (.string (str (ss.getD i [])))
theorem Rs.at {W:World} {g:Nat} {ss:List (List UInt8)} (h:Rs W g ss) {k:Nat} (hk:k < ss.length):W.cell? ⟨g,k,none⟩=some (.string (str (ss.getD k [])))∧W.frozen? ⟨g,k,none⟩=false:=by
 obtain ⟨cur,hb,_,hc⟩:=h;exact ⟨by rw [hb.cell];exact hc k hk,hb.frozen k⟩
theorem getSetS (ss:List (List UInt8)) (k i:Nat) (y:List UInt8) (hk:k < ss.length):(ss.set k y).getD i []=if i=k then y else ss.getD i []:=by
 rw [List.getD,List.getD,List.getElem?_set]
 by_cases h:k=i
 ·subst h
  simp [hk]
 ·rw [if_neg h,if_neg (fun e => h e.symm)]
theorem Rs.set {W:World} {g:Nat} {ss:List (List UInt8)} (h:Rs W g ss) {k:Nat} (hk:k < ss.length) (y:List UInt8):Rs (W.setCell ⟨g,k,none⟩ (.string (str y))) g (ss.set k y):=by
 obtain ⟨cur,hb,hs,hc⟩:=h;refine ⟨cur.setIfInBounds k (.string (str y)),blk_setIf hb k _,by rw [List.length_set];simpa using hs,fun i hi => ?_⟩
 rw [List.length_set] at hi;rw [getSetS ss k i y hk,Array.getElem?_setIfInBounds]
 by_cases hik:k=i
 ·subst hik
  rw [if_pos rfl,if_pos (by omega),if_pos rfl]
 ·rw [if_neg hik,if_neg (fun e => hik e.symm),hc i hi]
theorem Rs.strs {W:World} {g:Nat} {ss:List (List UInt8)} (h:Rs W g ss):StrsAt W (some ⟨g,0,none⟩) ss.length ss:=by
 obtain ⟨cur,hB,_,hc⟩:=h;exact ⟨rfl,fun _ => ⟨g,0,rfl,hB.lt,fun i hi => by rw [Nat.zero_add,hB.cell,hc i hi]⟩⟩
theorem rs_drewN {W:World} {g:Nat} {ss:List (List UInt8)} (h:Rs W g ss) (m:Nat):Rs (W.drewN m) g ss:=by
 obtain ⟨cur,h1,h2,h3⟩:=h;exact ⟨cur,h1.drewN m,h2,h3⟩
theorem rs_own {w':World} {B:Nat} {v:Value} {ss:List (List UInt8)} (h:w'.ownsRow B 9 1 v ss.length (flatS ss)) (h0:0 < ss.length):∃ g c,v=.slice (some ⟨g,0,none⟩) ss.length c∧B≤g∧ss.length≤c∧c≤maxLen∧Rs w' g ss:=by
 rcases h.2 with ⟨_,h1⟩ | ⟨g,cap,cur,h1,hb,hg,h2,h3,h4,h5⟩
 ·omega
 ·have hsz:ss.length≤cur.size:=by omega
  refine ⟨g,cap,h1,hb,h2,h3,cur,hg,hsz,fun i hi => ?_⟩
  rw [← flatS_get ss hi,← h5,List.getElem?_take,if_pos (by omega)]
  simp
end Go.Proofs.YtfhelebejclalaaDoor.Lnk
end
section
namespace Go.Proofs.YtfhelebejclalaaDoor.Mem
open Go.ChangeShapes Go.WideShapes Go.ChangeAt Go.RowKit Go.Deep Base Byt Txt Bk Hp Head Rec Go.Lib
set_option linter.unusedVariables false
set_option maxRecDepth 100000
theorem cells8:Tryd.prog.cellsOf 50=8:=by kernel_rfl
theorem cellsY:Tryd.prog.cellsOf 23=1:=by kernel_rfl
instance:Inhabited MP:=⟨zeroP⟩
section
variable {H:Type} {enc:TypeId × Value → H} {w:World} {base:Nat} {held:Bool}
end
end Go.Proofs.YtfhelebejclalaaDoor.Mem
end
section
namespace Go.Proofs.YtfhelebejclalaaDoor.Tre
open Go.ChangeShapes Go.WideShapes Go.ChangeAt Go.RowKit Go.Deep Base Byt Txt Bk Hp Head Rec Mem Go.Lib
set_option linter.unusedVariables false
set_option maxRecDepth 100000
theorem list9 {α:Type} (l:List α) (h:l.length=9):∃ a b c d e f g i j,l=[a,b,c,d,e,f,g,i,j]:=by
 match l,h with
 | [a,b,c,d,e,f,g,i,j],_ => exact ⟨a,b,c,d,e,f,g,i,j,rfl⟩
theorem list6 {α:Type} (l:List α) (h:l.length=6):∃ a b c d e f,l=[a,b,c,d,e,f]:=by
 match l,h with
 | [a,b,c,d,e,f],_ => exact ⟨a,b,c,d,e,f,rfl⟩
theorem cellsN9:Tryd.prog.cellsOf 45=9:=by kernel_rfl
instance:Inhabited NP:=⟨zeroQ⟩
def WfN (m:NodeV):Prop:=(Lit.int .i64 m.mode).wf=true∧(Lit.int .i64 m.uid).wf=true∧(Lit.int .i64 m.gid).wf=true∧(Lit.int .i64 m.time).wf=true
def RoomN (x:NP):Prop:=x.m.path.length≤140737488351232∧x.m.target.length≤140737488351232∧x.m.leader.length≤140737488351232∧x.c≤140737488351232
section
variable {H:Type} {enc:TypeId × Value → H} {w:World} {base:Nat} {held:Bool}
theorem node_cells {cs:List Value} {d:DataW H} {ps:List MemPlace} {fuel:Nat} (hw:∀ z ∈ d.weights Tryd.prog 45,z≤reachBytes)
 (hf:DataW.trod enc Tryd.prog w base (fun _ => true) held fuel 45 cs=some (d,ps)) :
 ∃ x:NP,cs=x.cs.toList∧BodAt w x∧WfN x.m∧RoomN x:=by
 obtain ⟨xs,n,rfl,hx,hl,hxl,hall⟩:=DataW.trod_struct Tryd.underlying45 hf;rw [cellsN9] at hl;obtain ⟨a,b,a2,c,e,f,g,i,j,rfl⟩:=list9 cs hl;obtain ⟨x0,x1,xl,x2,x3,x4,rfl⟩:=list6 xs (by simpa using hxl)
 have h0:=hall 0 _ rfl;have h1:=hall 1 _ rfl;have hq:=hall 2 _ rfl;have h2:=hall 3 _ rfl;have h3:=hall 4 _ rfl;have h4:=hall 5 _ rfl;simp only [List.getElem_toArray,List.getElem_cons_zero,List.getElem_cons_succ,cellsM,cellsS,cellsU,cellsY,List.drop_zero,List.drop_succ_cons,List.take_succ_cons,List.take_zero,List.getElem?_cons_zero,List.getElem?_cons_succ] at h0 h1 hq h2 h3 h4;obtain ⟨s0,e0,rfl,z0⟩:=DataW.trod_string Tryd.underlying9 h0;obtain ⟨s1,e1,rfl,z1⟩:=DataW.trod_string Tryd.underlying9 h1;obtain ⟨sq,eq,rfl,zq⟩:=DataW.trod_string Tryd.underlying9 hq
 obtain ⟨k2,e2,rfl,z2⟩:=DataW.trod_int Tryd.underlying5 h2;obtain ⟨ys,n',rfl,hy,hl',hyl,hall'⟩:=DataW.trod_struct Tryd.underlying43 h3;obtain ⟨y0,y1,y2,y3,rfl⟩:=list4 ys (by simpa using hyl)
 have g0:=hall' 0 _ rfl;have g1:=hall' 1 _ rfl;have g2:=hall' 2 _ rfl;have g3:=hall' 3 _ rfl;simp only [List.getElem_toArray,List.getElem_cons_zero,List.getElem_cons_succ,cellsI,List.drop_zero,List.drop_succ_cons,List.take_succ_cons,List.take_zero,List.getElem?_cons_zero,List.getElem?_cons_succ] at g0 g1 g2 g3;obtain ⟨m0,f0,rfl,q0⟩:=DataW.trod_int Tryd.underlying3 g0;obtain ⟨m1,f1,rfl,q1⟩:=DataW.trod_int Tryd.underlying3 g1;obtain ⟨m2,f2,rfl,q2⟩:=DataW.trod_int Tryd.underlying3 g2;obtain ⟨m3,f3,rfl,q3⟩:=DataW.trod_int Tryd.underlying3 g3;simp only [List.cons.injEq,and_true] at e0 e1 eq e2 f0 f1 f2 f3
 subst e0 e1 eq e2 f0 f1 f2 f3;obtain ⟨k0,k1⟩:=wf8 z2;simp only [Prod.mk.injEq,List.map_cons,List.map_nil] at hx;obtain ⟨hd,_⟩:=hx
 have ew:d.weights Tryd.prog 45=DataW.weightsEach Tryd.prog [9,9,9,5,43,23] [.lit (.string s0.data.toList),.lit (.string s1.data.toList),.lit (.string sq.data.toList),.lit (.int .u8 k2),x3.1,x4.1]:=by
  rw [hd];simp only [DataW.weights,Tryd.underlying45];rfl
 have w0:=hw s0.data.toList.length (by rw [ew];simp [DataW.weightsEach,DataW.weights])
 have w1:=hw s1.data.toList.length (by rw [ew];simp [DataW.weightsEach,DataW.weights])
 have wq:=hw sq.data.toList.length (by rw [ew];simp [DataW.weightsEach,DataW.weights])
 have w4:∀ z ∈ x4.1.weights Tryd.prog 23,z≤reachBytes:=fun z hz => hw z (by
  rw [ew];simp only [DataW.weightsEach,List.mem_append]
  exact .inr (.inr (.inr (.inr (.inr (.inl hz))))))
 have ek:((UInt8.ofNat k2.toNat).toNat:Int)=k2:=by rw [UInt8.toNat_ofNat'];omega
 simp only [reachBytes] at w0 w1 wq;rcases open_ints Tryd.underlying23 Tryd.underlying5 cellsU h4 with ⟨hcs,_⟩ | ⟨x,l,cp,zs,hcs,_,hlc,hmx,hz,hxx,hcell,hwz⟩
 ·simp only [List.cons.injEq,and_true] at hcs
  subst hcs;refine ⟨⟨⟨s0.data.toList,s1.data.toList,sq.data.toList,UInt8.ofNat k2.toNat,m0,m1,m2,m3,[]⟩,none,0⟩,?_,⟨fun h0 => by simp at h0,Nat.le_refl _,by show (0:Nat)≤maxLen;decide⟩,⟨q0,q1,q2,q3⟩,by omega,by omega,by omega,by show 0≤_;omega⟩
  rw [NP.cs_list,str_of,str_of,str_of,ek];rfl
 ·simp only [List.cons.injEq,and_true] at hcs
  subst hcs;simp only [if_true] at hz;have hrow:IsRow .u8 w (some x) l cp zs:=.inr ⟨_,rfl,hlc,hmx,hz,fun i hi => hcell i hi,hwz⟩
  obtain ⟨b1,b2,b3,b4⟩:=bat_of_row hrow
  have wc:=w4 (cp * 1) (by
   rw [hxx];simp only [DataW.weights,Tryd.underlying23,List.mem_cons,List.mem_append,lits,List.length_map,List.length_take,List.length_drop];refine .inl ?_
   rw [(by kernel_rfl:Tryd.prog.bytesOf 5=1)]
   congr 1
   omega)
  simp only [reachBytes] at wc;refine ⟨⟨⟨s0.data.toList,s1.data.toList,sq.data.toList,UInt8.ofNat k2.toNat,m0,m1,m2,m3,bytesOf (zs.take l)⟩,some x,cp⟩,?_,⟨?_,?_,hmx⟩,⟨q0,q1,q2,q3⟩,by omega,by omega,by omega,by show cp≤_;omega⟩
  ·rw [NP.cs_list,str_of,str_of,str_of,ek]
   simp only [b2]
  ·show BAt w (some x) (bytesOf (zs.take l)).length (bytesOf (zs.take l))
   rw [b2];exact b1
  ·show (bytesOf (zs.take l)).length≤cp
   rw [b2];exact hlc
theorem nodes_open {a:Option Addr} {len cap:Nat} {d:DataW H} {ps:List MemPlace} {ts:List TypeId} {ds:List (DataW H)} (hz:(DataW.weightsEach Tryd.prog ts ds).all (· ≤ reachBytes)=true) {j:Nat} (ht:ts[j]? = some 22) (hd:ds[j]? = some d)
 (h:DataW.Trod enc Tryd.prog w base (fun _ => true) held 22 (.slice a len cap) d ps) :
 ∃ xs:List NP,NodesAt w a len xs∧len≤cap∧cap≤maxLen∧cap * 112≤140737488351232 ∧ ∀ x ∈ xs,WfN x.m∧RoomN x:=by
 obtain ⟨fuel,hf⟩:=h;rcases open_slice Tryd.underlying22 hf with ⟨hcs,_⟩ | ⟨x,l,c,m,n,D,Pl,hcs,hb,hl,hm,hmm,hdd,hx⟩
 ·simp [Value.cells] at hcs
  obtain ⟨rfl,rfl,rfl⟩:=hcs;exact ⟨[],nodes_nil w none,by omega,by omega,by omega,fun x hx => by simp at hx⟩
 ·simp [Value.cells] at hcs
  obtain ⟨rfl,rfl,rfl⟩:=hcs;simp only [if_true] at hmm;subst hmm;simp only [Prod.mk.injEq] at hdd;obtain ⟨hdd,_⟩:=hdd;have hw:=List.all_eq_true.1 hz
  have key:∀ i,i < len → ∃ q:NP,w.cells? base (x.add (i * 9 )) 9=some q.cs.toList∧BodAt w q∧WfN q.m∧RoomN q:=fun i hi => by
   obtain ⟨cs',h1,h2⟩:=hx i (by omega)
   rw [cellsN9] at h1;have hmem:D i ∈ (List.range len).map D:=List.mem_map.2 ⟨i,List.mem_range.2 hi,rfl⟩
   obtain ⟨q,rfl,g⟩:=node_cells (fun z hzz => by
    have hin:z ∈ d.weights Tryd.prog 22:=by
     rw [hdd];simp only [DataW.weights,Tryd.underlying22,List.mem_cons,List.mem_append];exact .inr (.inl (weights_all hmem hzz))
    exact of_decide_eq_true (hw _ (DataW.weights_mem_each ht hd _ hin))) h2
   exact ⟨q,h1,g⟩
  obtain ⟨q,hq⟩:=choose_lt key
  have hget:∀ i,i < len → ((List.range len).map q).getD i zeroQ=q i:=fun i hi => by
   simp [List.getD,hi]
  have hbytes:m * 112 ∈ d.weights Tryd.prog 22:=by
   rw [hdd];simp only [DataW.weights,Tryd.underlying22,List.mem_cons,List.mem_append,List.length_map,List.length_range];refine .inl ?_
   rw [(by kernel_rfl:Tryd.prog.bytesOf 45=112)]
   congr 1
   omega
  have hby:=of_decide_eq_true (hw _ (DataW.weights_mem_each ht hd _ hbytes));simp only [reachBytes] at hby;refine ⟨(List.range len).map q,⟨by simp,fun y hy => ?_,fun h0 => ?_⟩,hl,hm,hby,fun y hy => ?_⟩
  ·obtain ⟨i,hi,rfl⟩:=List.mem_map.1 hy
   exact (hq i (List.mem_range.1 hi)).2.1
  ·obtain ⟨_,_,hc0⟩:=World.cells?_some (hq 0 h0).1
   have c0:w.cell? ((x.add (0 * 9)).add 0)=some (.string (str (q 0).m.path)):=hc0 0 (by omega)
   have hx0:x=⟨x.block,x.off,none⟩:=by
    obtain ⟨b,o,s⟩:=x
    have hs:s=none:=by
     have:w.cell? (⟨b,o,s⟩:Addr)=some (.string (str (q 0).m.path)):=by simpa [Addr.add] using c0
     exact World.cell?_spot this
    rw [hs]
   refine ⟨x.block,x.off,by rw [← hx0],?_,fun i hi j hj => ?_⟩
   ·have c0':w.cell? ((x.add (0 * 9)).add 0)=some (.string (str (q 0).m.path)):=c0
    first | rw [hx0,Lib.add_plain,Lib.add_plain] at c0' | rw [hx0,WideShapes.add_plain,WideShapes.add_plain] at c0'
    have c1':=World.block_lt_of_cell? _ _ c0';exact c1'
   ·obtain ⟨_,_,hci⟩:=World.cells?_some (hq i hi).1
    have:=hci j hj
    first | rw [hx0,Lib.add_plain,Lib.add_plain] at this | rw [hx0,WideShapes.add_plain,WideShapes.add_plain] at this
    rw [hget i hi,show x.off+9 * i+j=x.off+i * 9+j by omega,this,Array.getElem?_toList]
  ·obtain ⟨i,hi,rfl⟩:=List.mem_map.1 hy
   exact (hq i (List.mem_range.1 hi)).2.2
end
end Go.Proofs.YtfhelebejclalaaDoor.Tre
end
section
namespace Go.Proofs.YtfhelebejclalaaDoor.Lnk
open Go.ChangeShapes Go.WideShapes Go.ChangeAt Go.RowKit Base Byt Txt Bk Rec Block Mem Tre Go.Lib
set_option linter.unusedVariables false
set_option maxRecDepth 100000
def pathsN (xs:List NP):List (List UInt8):=xs.map fun x => x.m.path
theorem pathsN_take (xs:List NP) (k:Nat) (h:k < xs.length):pathsN (xs.take (k+1))=pathsN (xs.take k)++[(xs.getD k zeroQ).m.path]:=by
 unfold pathsN;rw [List.take_succ_eq_append_getElem h,List.map_append,List.getD,List.getElem?_eq_getElem h];rfl
def OwnStrs (w:World) (n:Nat) (P:List (List UInt8) → Prop) (e:Ending) (w':World):Prop:=
 ∃ q d ss,e=.returned (.slice q n d)∧P ss∧ss.length=n∧n≤d∧d≤maxLen∧StrsAt w' q n ss∧(0 < n → ∃ g,q=some ⟨g,0,none⟩∧w.heap.size≤g∧Rs w' g ss)∧Below w.heap.size w w'
set_option maxHeartbeats 4000000 in
theorem rpaths_any (p:Option Addr) (n c:Nat) (xs:List NP) (w:World) (h:NodesAt w p n xs) (hn:n≤100000) :
 Calls Tryd.prog 24 #[.slice p n c] w (OwnStrs w n fun ss => ss=pathsN xs):=by
 have HM:=Lib.hid h;have HL:=Lib.hid h.1;clear h
 go_enter Tryd.func24,Tryd.ntmps24
 go_wp2_with fail
 go_loopw [3,4] (fun o i wr => ∃ (k:Nat) (vo:Value),k≤n∧vo=o∧i=.int .i64 (k:Int)∧Hid (wr.ownsRow w.heap.size 9 1 vo k (flatS (pathsN (xs.take k))))∧Hid (Below w.heap.size w wr)) (fun _ i _ => n - (RowKit.intOf i).toNat)
 case atStart => exact ⟨0,_,Nat.zero_le _,rfl,rfl,Lib.hid (World.ownsRow_nil _ _ _ _),Lib.hid (Below.refl _ _)⟩
 case round =>
  obtain ⟨k,o,hk,rfl,rfl,hR,hB⟩:=hrel
  by_cases hlt:k < n
  ·have hkl:k < xs.length:=by rw [HL.out];exact hlt
   obtain ⟨b,o',rfl,hb,hBd,hc⟩:=(HM.out.below hB.out).cells9 hlt;have hT:=pathsN_take xs k hkl;obtain ⟨v,hv⟩:∃ v,xs.getD k zeroQ=v:=⟨_,rfl⟩;rw [hv] at hc hT;have HT:=Lib.hid hT;have hlen:(pathsN (xs.take k)).length=k:=by unfold pathsN;rw [List.length_map,List.length_take];omega
   have HLEN:=Lib.hid hlen;obtain ⟨c0,c1,c2,c3,c4,c5,c6,c7,c8⟩:=hc;have hltz:(k:Int) < (n:Int):=by omega
   clear hv hT hkl hBd hb hlen c1 c2 c3 c4 c5 c6 c7 c8
   go_wp2_with (at_builtin;refine append_str rfl _ _ rfl w.heap.size o (pathsN (xs.take k)) rfl (by rw [HLEN.out];exact row_below hR.out ((Below.refl _ _).alloc (Nat.le_refl _) _)) wr.heap.size 1 v.m.path rfl (Blk.new wr _ _) (by have:=HLEN.out;omega) (by have:=hB.out.size;first | omega | (simp;omega)) ?_)
   intro v4 w4 hrow hg hnw;have hlen2:(pathsN (xs.take k)++[v.m.path]).length=k+1:=by rw [List.length_append,HLEN.out];rfl
   have HR4:Hid (w4.ownsRow w.heap.size 9 1 v4 (k+1) (flatS (pathsN (xs.take (k+1))))):=Lib.hid (by
    rw [HT.out,← hlen2];have h9:=hrow;rw [show (pathsN (xs.take k)).length+1=(pathsN (xs.take k)++[v.m.path]).length by simp] at h9
    exact h9)
   have HB4:Hid (Below w.heap.size w w4):=Lib.hid (by
    have h34:Below w.heap.size w (wr.alloc (.cells #[.string (str v.m.path)] 9)):=hB.out.alloc hB.out.size _
    exact h34.trans (((Kept.refl (fun b => o.ownBlock=some b) _).grown hg (fun k hk => .inr hk)).below h34.size (fun k hk => (World.ownsRow.lt hR.out _ hk).1)))
   clear hrow hg hnw hlen2 c0
   go_wp2
   go_roundw
   case rel => exact ⟨k+1,_,by omega,rfl,by go_num,HR4,HB4⟩
   case measure => simp [RowKit.intOf];omega
  ·obtain rfl:k=n:=by omega
   have hks:¬ ((k:Int) < (k:Int)):=by omega
   have e:xs.take k=xs:=List.take_of_length_le (by rw [HL.out];exact Nat.le_refl _)
   have hr:=hR.out;rw [e] at hr;have hlen:(pathsN xs).length=k:=by unfold pathsN;rw [List.length_map];exact HL.out
   rw [← hlen] at hr;obtain ⟨q,d,rfl,hd1,hd2,hs⟩:=strs_own hr
   have HH:Hid (k≤d∧d≤maxLen∧StrsAt wr q k (pathsN xs)∧(0 < k → ∃ g,q=some ⟨g,0,none⟩∧w.heap.size≤g∧Rs wr g (pathsN xs))):=Lib.hid (by
    rw [hlen] at hd1 hs;refine ⟨hd1,hd2,hs,fun h0 => ?_⟩
    obtain ⟨g,c2,he,hg,_,_,hrs⟩:=rs_own hr (by rw [hlen];exact h0)
    cases he
    exact ⟨g,rfl,hg,hrs⟩)
   have HLN:=Lib.hid hlen;rw [hlen];clear hr hlen hd1 hd2 hs e hR
   go_wp2
   go_ret
   exact ⟨q,d,pathsN xs,rfl,rfl,HLN.out,HH.out.1,HH.out.2.1,HH.out.2.2.1,HH.out.2.2.2,hB.out⟩
structure MixI (w wr:World) (ps:List (List UInt8)) (q:Option Addr) (n:Nat) (ss:List (List UInt8)):Prop where
 bel:Below w.heap.size w wr
 row:0 < n → ∃ g,q=some ⟨g,0,none⟩∧w.heap.size≤g∧Rs wr g ss
 perm:ss.Perm ps
 len:ps.length=n
section
variable {w wr w':World} {ps ss:List (List UInt8)} {q:Option Addr} {n:Nat}
theorem MixI.slen (h:MixI w wr ps q n ss):ss.length=n:=by rw [h.perm.length_eq,h.len]
theorem MixI.drewN (h:MixI w wr ps q n ss) (m:Nat):MixI w (wr.drewN m) ps q n ss where
 bel:=below_drewN h.bel m
 row:=fun h0 => by
  obtain ⟨g,h1,h2,h3⟩:=h.row h0;exact ⟨g,h1,h2,rs_drewN h3 m⟩
 perm:=h.perm
 len:=h.len
theorem MixI.drew (h:MixI w wr ps q n ss):MixI w wr.drew ps q n ss:=h.drewN 1
theorem getS_at {ss:List (List UInt8)} {k:Nat} (hk:k < ss.length):ss.getD k []=ss[k]:=by rw [List.getD,List.getElem?_eq_getElem hk];rfl
theorem MixI.swap (h:MixI w wr ps q n ss) {g i k:Nat} (hq:q=some ⟨g,0,none⟩) (hw:w.heap.size≤g) (hr:Rs wr g ss) (hi:i < n) (hk:k < n) :
 MixI w ((wr.setCell ⟨g,i,none⟩ (.string (str (ss.getD k [])))).setCell ⟨g,k,none⟩ (.string (str (ss.getD i [])))) ps q n ((ss.set i (ss.getD k [])).set k (ss.getD i [])) where
 bel:=h.bel.trans ((((Kept.refl (oneB g) wr).setCell (a:=⟨g,i,none⟩) (.inr rfl) _).setCell (a:=⟨g,k,none⟩) (.inr rfl) _).below h.bel.size (fun b hb => by rw [show b=g from hb];exact hw))
 row:=fun _ => ⟨g,hq,hw,(hr.set (k:=i) (by rw [h.slen];exact hi) (ss.getD k [])).set (k:=k) (by rw [List.length_set,h.slen];exact hk) (ss.getD i [])⟩
 perm:=by
  refine List.Perm.trans ?_ h.perm;rw [getS_at (show i < ss.length by rw [h.slen];exact hi),getS_at (show k < ss.length by rw [h.slen];exact hk)]
  exact List.set_set_perm _ _
 len:=h.len
theorem MixI.strs (h:MixI w wr ps q n ss):StrsAt wr q n ss:=by
 rcases Nat.eq_zero_or_pos n with h0 | h0
 ·have hz:ss=[]:=List.eq_nil_of_length_eq_zero (by rw [h.slen,h0])
  rw [h0,hz];exact strs_nil _ _
 ·obtain ⟨g,hq,_,hr⟩:=h.row h0
  have:=hr.strs;rw [h.slen] at this;rw [hq];exact this
end
end Go.Proofs.YtfhelebejclalaaDoor.Lnk
end
section
namespace Go.Proofs.YtfhelebejclalaaDoor.Lnk
open Go.ChangeShapes Go.WideShapes Go.ChangeAt Go.RowKit Base Byt Txt Bk Rec Block Mem Go.Proofs.YtfhelebejclalaaDoor.Mp Tre Go.Lib
set_option linter.unusedVariables false
set_option maxRecDepth 100000
section
variable {w:World} {o:Oper} {a:Act} {K:Act → World → Prop} {Q:Exit → Act → World → Prop}
end
def twoV (u v:Value) (k:Nat):Prop:=u.ownBlock=some k ∨ v.ownBlock=some k
end Go.Proofs.YtfhelebejclalaaDoor.Lnk
end
