/- Texts of this seat, merged: what the proof reaches. -/
import Derived.Test.YtpdpgjilalojjaaRecGetsX4
import Derived.RangeFuncNested
import Derived.Test.YtpdpgjilalojjaaRecGetsX14
import Derived.Test.YtpdpgjilalojjaaRecGetsX5
import Derived.Test.YtpdpgjilalojjaaRecGetsX3
import Derived.Laws.AppendOwn
import Derived.OwnWalk
import Derived.Laws.StructEq
import Derived.Test.YtpdpgjilalojjaaRecGetsX6
import Derived.Test.YtpdpgjilalojjaaRecGetsX13
import Derived.Deep.SlicePairs
import Derived.OpenShut
import Derived.SizedLaws
namespace Go.Proofs.Ytpdpgjilalojjaa
namespace Base
end Base
namespace Bk
end Bk
namespace Byt
end Byt
namespace Head
end Head
namespace Hp
end Hp
namespace Mem
end Mem
namespace Rec
end Rec
namespace Tre
end Tre
namespace Txt
end Txt
end Go.Proofs.Ytpdpgjilalojjaa
section
namespace Go.Proofs.Ytpdpgjilalojjaa.Bk
open Go.ChangeShapes Go.WideShapes Go.ChangeAt Go.RowKit Base Byt
set_option linter.unusedVariables false
def Blk (W:World) (b:Nat) (t:TypeId) (cs:Array Value):Prop:=W.heap[b]? = some (.cells cs t (0,0))
section
variable {W W':World} {b:Nat} {t:TypeId} {cs:Array Value}
theorem Blk.lt (h:Blk W b t cs):b < W.heap.size:=(Array.getElem?_eq_some_iff.1 h).1
theorem Blk.cell (h:Blk W b t cs) (i:Nat):W.cell? ⟨b,i,none⟩=cs[i]?:=by simp [World.cell?,show W.heap[b]? = _ from h]
theorem Blk.frozen (h:Blk W b t cs) (i:Nat):W.frozen? ⟨b,i,none⟩=false:=by simp [World.frozen?,show W.heap[b]? = _ from h]
theorem Blk.new (W:World) (t:TypeId) (cs:Array Value):Blk (W.alloc (.cells cs t)) W.heap.size t cs:=World.alloc_heap_new W _
theorem Blk.kept (h:Blk W b t cs) {row:Option Nat} (hg:W.grownBy W' row) (hr:∀ r,row=some r → ∃ o:Obj,W.heap[r]? = some o∧o.isCells=false):Blk W' b t cs:=
 (grownBy_keeps_cells hg hr h rfl).trans h
theorem Blk.alloc (h:Blk W b t cs) (o:Obj):Blk (W.alloc o) b t cs:=h.kept (World.grownBy_alloc W o none) (fun r e => by cases e)
theorem Blk.drew (h:Blk W b t cs):Blk W.drew b t cs:=h
theorem Blk.below (h:Blk W b t cs) {n:Nat} (hb:Below n W W') (hn:b < n):Blk W' b t cs:=(hb.block b hn).trans h
theorem Blk.keptS {S:Nat → Prop} (h:Blk W b t cs) (hk:Kept S W W') (hn:¬ S b):Blk W' b t cs:=hk.some_ h hn
theorem Blk.set (h:Blk W b t cs) (i:Nat) (v:Value) (hi:i < cs.size):Blk (W.setCell ⟨b,i,none⟩ v) b t (cs.set i v hi):=by
 obtain ⟨hl,he⟩:=Array.getElem?_eq_some_iff.1 h;unfold Blk World.setCell;refine Array.getElem?_eq_some_iff.2 ⟨by simpa using hl,?_⟩
 rw [Array.getElem_modify,if_pos rfl,he];simp [Array.setIfInBounds,hi]
end
end Go.Proofs.Ytpdpgjilalojjaa.Bk
end
section
namespace Go.Proofs.Ytpdpgjilalojjaa.Mem
open Go.ChangeShapes Go.WideShapes Go.ChangeAt Go.RowKit Base Byt Txt Bk Go.Lib
set_option linter.unusedVariables false
set_option maxRecDepth 100000
structure MP where
 m:MemV
 p:Option Addr
 c:Nat
def zeroM:MemV:=⟨[],[],0,0,0,0,0,[]⟩
def zeroP:MP:=⟨zeroM,none,0⟩
def memC (m:MemV) (p:Option Addr) (c:Nat):Array Value:=#[.string (str m.path),.string (str m.target),.int .u8 (m.kind.toNat:Int),.int .i64 m.mode,.int .i64 m.uid,.int .i64 m.gid,.int .i64 m.time,.slice p m.body.length c]
def MP.cs (x:MP):Array Value:=memC x.m x.p x.c
structure BodyAt (w:World) (x:MP):Prop where
 bat:BAt w x.p x.m.body.length x.m.body
 le:x.m.body.length≤x.c
 mx:x.c≤maxLen
theorem BodyAt.kept {S:Nat → Prop} {w w':World} {x:MP} (h:BodyAt w x) (hk:Kept S w w') (hn:0 < x.m.body.length → ∀ a,x.p=some a → ¬ S a.block):BodyAt w' x:=⟨h.bat.kept hk hn,h.le,h.mx⟩
theorem BodyAt.below {w w':World} {x:MP} (h:BodyAt w x) (hb:Below w.heap.size w w'):BodyAt w' x:=⟨h.bat.below hb,h.le,h.mx⟩
def MemsAt (w:World) (p:Option Addr) (n:Nat) (xs:List MP):Prop:=
 xs.length=n∧(∀ x ∈ xs,BodyAt w x)∧(0 < n → ∃ b o,p=some ⟨b,o,none⟩∧b < w.heap.size ∧ ∀ i,i < n → ∀ j,j < 8 → w.cell? ⟨b,o+8 * i+j,none⟩=(xs.getD i zeroP).cs[j]?)
theorem MemsAt.below {w w':World} {p:Option Addr} {n:Nat} {xs:List MP} (h:MemsAt w p n xs) (hb:Below w.heap.size w w'):MemsAt w' p n xs:=by
 refine ⟨h.1,fun x hx => (h.2.1 x hx).below hb,fun h0 => ?_⟩
 obtain ⟨b,o,rfl,hbw,hc⟩:=h.2.2 h0;refine ⟨b,o,rfl,Nat.lt_of_lt_of_le hbw hb.size,fun i hi j hj => ?_⟩
 rw [hb.cell (p:=⟨b,o+8 * i+j,none⟩) hbw];exact hc i hi j hj
theorem MemsAt.cells {w:World} {p:Option Addr} {n:Nat} {xs:List MP} (h:MemsAt w p n xs) {i:Nat} (hi:i < n):∃ b o,p=some ⟨b,o,none⟩∧b < w.heap.size∧BodyAt w (xs.getD i zeroP) ∧
 w.cell? ⟨b,o+8 * i,none⟩=some (.string (str (xs.getD i zeroP).m.path))∧w.cell? ⟨b,o+8 * i+1,none⟩=some (.string (str (xs.getD i zeroP).m.target)) ∧
 w.cell? ⟨b,o+8 * i+2,none⟩=some (.int .u8 ((xs.getD i zeroP).m.kind.toNat:Int))∧w.cell? ⟨b,o+8 * i+3,none⟩=some (.int .i64 (xs.getD i zeroP).m.mode) ∧
 w.cell? ⟨b,o+8 * i+4,none⟩=some (.int .i64 (xs.getD i zeroP).m.uid)∧w.cell? ⟨b,o+8 * i+5,none⟩=some (.int .i64 (xs.getD i zeroP).m.gid) ∧
 w.cell? ⟨b,o+8 * i+6,none⟩=some (.int .i64 (xs.getD i zeroP).m.time)∧w.cell? ⟨b,o+8 * i+7,none⟩=some (.slice (xs.getD i zeroP).p (xs.getD i zeroP).m.body.length (xs.getD i zeroP).c):=by
 obtain ⟨b,o,rfl,hbw,hc⟩:=h.2.2 (by omega)
 have hb:BodyAt w (xs.getD i zeroP):=h.2.1 _ (by
  have hl:i < xs.length:=by rw [h.1];exact hi
  rw [List.getD,List.getElem?_eq_getElem hl]
  exact List.getElem_mem hl)
 exact ⟨b,o,rfl,hbw,hb,hc i hi 0 (by omega),hc i hi 1 (by omega),hc i hi 2 (by omega),hc i hi 3 (by omega),hc i hi 4 (by omega),hc i hi 5 (by omega),hc i hi 6 (by omega),hc i hi 7 (by omega)⟩
end Go.Proofs.Ytpdpgjilalojjaa.Mem
end
section
namespace Go.Proofs.Ytpdpgjilalojjaa.Itm
open Go.ChangeShapes Go.WideShapes Go.ChangeAt Go.RowKit Base Byt Txt Bk Mem Tre Go.Lib
set_option linter.unusedVariables false
set_option maxRecDepth 100000
structure IP where
 m:ItemV
 p:Option Addr
 c:Nat
def zeroJ:IP:=⟨zeroI,none,0⟩
def itmC (m:ItemV) (p:Option Addr) (c:Nat):Array Value:=#[.string (str m.key),.int .i64 m.seq,.slice p m.data.length c]
def IP.cs (x:IP):Array Value:=itmC x.m x.p x.c
structure DatAt (w:World) (x:IP):Prop where
 bat:BAt w x.p x.m.data.length x.m.data
 le:x.m.data.length≤x.c
 mx:x.c≤maxLen
theorem DatAt.kept {S:Nat → Prop} {w w':World} {x:IP} (h:DatAt w x) (hk:Kept S w w') (hn:0 < x.m.data.length → ∀ a,x.p=some a → ¬ S a.block):DatAt w' x:=⟨h.bat.kept hk hn,h.le,h.mx⟩
theorem DatAt.below {w w':World} {x:IP} (h:DatAt w x) (hb:Below w.heap.size w w'):DatAt w' x:=⟨h.bat.below hb,h.le,h.mx⟩
def flatJ (xs:List IP):List Value:=xs.flatMap fun x => x.cs.toList
def ItemsAt (w:World) (p:Option Addr) (n:Nat) (xs:List IP):Prop:=
 xs.length=n∧(∀ x ∈ xs,DatAt w x)∧(0 < n → ∃ b o,p=some ⟨b,o,none⟩∧b < w.heap.size ∧ ∀ i,i < n → ∀ j,j < 3 → w.cell? ⟨b,o+3 * i+j,none⟩=(xs.getD i zeroJ).cs[j]?)
theorem ItemsAt.below {w w':World} {p:Option Addr} {n:Nat} {xs:List IP} (h:ItemsAt w p n xs) (hb:Below w.heap.size w w'):ItemsAt w' p n xs:=by
 refine ⟨h.1,fun x hx => (h.2.1 x hx).below hb,fun h0 => ?_⟩
 obtain ⟨b,o,rfl,hbw,hc⟩:=h.2.2 h0;refine ⟨b,o,rfl,Nat.lt_of_lt_of_le hbw hb.size,fun i hi j hj => ?_⟩
 rw [hb.cell (p:=⟨b,o+3 * i+j,none⟩) hbw];exact hc i hi j hj
def Cells3 (w:World) (b o:Nat) (y:IP):Prop:=
 w.cell? ⟨b,o,none⟩=some (.string (str y.m.key))∧w.cell? ⟨b,o+1,none⟩=some (.int .i64 y.m.seq)∧w.cell? ⟨b,o+2,none⟩=some (.slice y.p y.m.data.length y.c)
theorem Cells3.below {w w':World} {b o:Nat} {y:IP} (h:Cells3 w b o y) (hb:b < w.heap.size) (hw:Below w.heap.size w w'):Cells3 w' b o y:=by
 unfold Cells3 at h ⊢;simp only [hw.cell (p:=⟨b,_,none⟩) hb];exact h
theorem takeJ_succ (xs:List IP) (k:Nat) (h:k < xs.length):(xs.take (k+1)).map IP.m=(xs.take k).map IP.m++[(xs.getD k zeroJ).m]:=by
 rw [List.take_succ_eq_append_getElem h,List.map_append,List.getD,List.getElem?_eq_getElem h];rfl
theorem ItemsAt.drop {w:World} {p:Option Addr} {n:Nat} {xs:List IP} (h:ItemsAt w p n xs) {k:Nat} (hk:k≤n):ItemsAt w p k (xs.take k):=by
 refine ⟨by rw [List.length_take,h.1];omega,fun x hx => h.2.1 x (List.mem_of_mem_take hx),fun h0 => ?_⟩
 obtain ⟨b,o,rfl,hb,hc⟩:=h.2.2 (by omega)
 refine ⟨b,o,rfl,hb,fun i hi j hj => ?_⟩
 rw [hc i (by omega) j hj]
 congr 2
 simp [List.getD,hi]
end Go.Proofs.Ytpdpgjilalojjaa.Itm
end
section
namespace Go.Proofs.Ytpdpgjilalojjaa.Mem
open Go.ChangeShapes Go.WideShapes Go.ChangeAt Go.RowKit Go.Deep Base Byt Txt Bk Hp Head Rec Go.Lib
set_option linter.unusedVariables false
set_option maxRecDepth 100000
instance:Inhabited MP:=⟨zeroP⟩
section
variable {H:Type} {enc:TypeId × Value → H} {w:World} {base:Nat} {held:Bool}
end
end Go.Proofs.Ytpdpgjilalojjaa.Mem
end
section
namespace Go.Proofs.Ytpdpgjilalojjaa.Itm
open Go.ChangeShapes Go.WideShapes Go.ChangeAt Go.RowKit Go.Deep Base Byt Txt Bk Hp Head Rec Mem Tre Go.Lib
set_option linter.unusedVariables false
set_option maxRecDepth 100000
instance:Inhabited IP:=⟨zeroJ⟩
def WfI (m:ItemV):Prop:=(Lit.int .i64 m.seq).wf=true
section
variable {H:Type} {enc:TypeId × Value → H} {w:World} {base:Nat} {held:Bool}
end
end Go.Proofs.Ytpdpgjilalojjaa.Itm
end
section
namespace Go.Proofs.Ytpdpgjilalojjaa.Mem
open Go.ChangeShapes Go.WideShapes Go.ChangeAt Go.RowKit Base Byt Txt Bk Go.Lib
set_option linter.unusedVariables false
set_option maxRecDepth 100000
theorem bat_lt {w:World} {p:Option Addr} {m:Nat} {bs:List UInt8} (h:BAt w p m bs) (h0:0 < m) {y:Addr} (hy:p=some y):y.block < w.heap.size:=by
 obtain ⟨b,o,he,hb,_⟩:=h.cell h0;rw [hy] at he
 cases he
 exact hb
def Cells8 (w:World) (b o:Nat) (y:MP):Prop:=
 w.cell? ⟨b,o,none⟩=some (.string (str y.m.path))∧w.cell? ⟨b,o+1,none⟩=some (.string (str y.m.target))∧w.cell? ⟨b,o+2,none⟩=some (.int .u8 (y.m.kind.toNat:Int))∧w.cell? ⟨b,o+3,none⟩=some (.int .i64 y.m.mode) ∧
 w.cell? ⟨b,o+4,none⟩=some (.int .i64 y.m.uid)∧w.cell? ⟨b,o+5,none⟩=some (.int .i64 y.m.gid)∧w.cell? ⟨b,o+6,none⟩=some (.int .i64 y.m.time)∧w.cell? ⟨b,o+7,none⟩=some (.slice y.p y.m.body.length y.c)
theorem Cells8.below {w w':World} {b o:Nat} {y:MP} (h:Cells8 w b o y) (hb:b < w.heap.size) (hw:Below w.heap.size w w'):Cells8 w' b o y:=by
 unfold Cells8 at h ⊢;simp only [hw.cell (p:=⟨b,_,none⟩) hb];exact h
end Go.Proofs.Ytpdpgjilalojjaa.Mem
end
