/- A block of cells, told whole. -/
import Derived.Test.YtfmhdkemigpjjaaDoorKept
import Derived.RangeFuncNested
namespace Go.Proofs.YtfmhdkemigpjjaaDoor.Bk
open Go.ChangeShapes Go.WideShapes Go.ChangeAt Go.RowKit Go.Proofs.YtfmhdkemigpjjaaDoor.Base Go.Proofs.YtfmhdkemigpjjaaDoor.Byt
set_option linter.unusedVariables false

/-- block b has these cells, and no others -/
def Blk (W : World) (b : Nat) (t : TypeId) (cs : Array Value) : Prop := W.heap[b]? = some (.cells cs t (0, 0))
section
variable {W W' : World} {b : Nat} {t : TypeId} {cs : Array Value}
theorem Blk.lt (h : Blk W b t cs) : b < W.heap.size := (Array.getElem?_eq_some_iff.1 h).1
theorem Blk.cell (h : Blk W b t cs) (i : Nat) : W.cell? ⟨b, i, none⟩ = cs[i]? := by simp [World.cell?, show W.heap[b]? = _ from h]
theorem Blk.frozen (h : Blk W b t cs) (i : Nat) : W.frozen? ⟨b, i, none⟩ = false := by simp [World.frozen?, show W.heap[b]? = _ from h]
theorem Blk.new (W : World) (t : TypeId) (cs : Array Value) : Blk (W.alloc (.cells cs t)) W.heap.size t cs := World.alloc_heap_new W _
theorem Blk.kept (h : Blk W b t cs) {row : Option Nat} (hg : W.grownBy W' row) (hr : ∀ r, row = some r → ∃ o : Obj, W.heap[r]? = some o ∧ o.isCells = false) : Blk W' b t cs :=
  (grownBy_keeps_cells hg hr h rfl).trans h
theorem Blk.alloc (h : Blk W b t cs) (o : Obj) : Blk (W.alloc o) b t cs := h.kept (World.grownBy_alloc W o none) (fun r e => by cases e)
theorem Blk.drewN (h : Blk W b t cs) (n : Nat) : Blk (W.drewN n) b t cs := h
theorem Blk.drew (h : Blk W b t cs) : Blk W.drew b t cs := h
theorem Blk.below (h : Blk W b t cs) {n : Nat} (hb : Below n W W') (hn : b < n) : Blk W' b t cs := (hb.block b hn).trans h
theorem Blk.keptS {S : Nat → Prop} (h : Blk W b t cs) (hk : Kept S W W') (hn : ¬ S b) : Blk W' b t cs := hk.some_ h hn
theorem Blk.set (h : Blk W b t cs) (i : Nat) (v : Value) (hi : i < cs.size) : Blk (W.setCell ⟨b, i, none⟩ v) b t (cs.set i v hi) := by
  obtain ⟨hl, he⟩ := Array.getElem?_eq_some_iff.1 h
  unfold Blk World.setCell
  refine Array.getElem?_eq_some_iff.2 ⟨by simpa using hl, ?_⟩
  rw [Array.getElem_modify, if_pos rfl, he]
  simp [Array.setIfInBounds, hi]
theorem Blk.other (h : Blk W b t cs) {b' i : Nat} (hne : b' ≠ b) (v : Value) : Blk (W.setCell ⟨b', i, none⟩ v) b t cs := by
  unfold Blk
  rw [Below.heap_setCell _ _ _ _ (fun e => hne (by simpa using e.symm))]
  exact h
theorem blk_own {β : Type} (b : Nat) (t : TypeId) (f : β → Array Value) : Own (fun s W => Blk W b t (f s)) := fun s X Y row hs hg hr => hs.kept hg hr
end
end Go.Proofs.YtfmhdkemigpjjaaDoor.Bk
