/- What head.Parse leaves: a head in memory. -/
import Derived.Test.YtdnelijkhinpcabDoorHeadNums
import Derived.Test.YtdnelijkhinpcabDoorHeadSum
import Derived.Laws.ResultCell
import Derived.Deep.RegionHeldLaw
namespace Go.Proofs.YtdnelijkhinpcabDoor.Head
open Go.ChangeShapes Go.WideShapes Go.ChangeAt Go.RowKit Go.Proofs.YtdnelijkhinpcabDoor.Base Go.Proofs.YtdnelijkhinpcabDoor.Byt Go.Proofs.YtdnelijkhinpcabDoor.Hp Go.Proofs.YtdnelijkhinpcabDoor.Mp Go.Proofs.YtdnelijkhinpcabDoor.Fp Go.Proofs.YtdnelijkhinpcabDoor.Field Go.Lib
set_option linter.unusedVariables false
set_option maxRecDepth 100000

/-- a head as it lies in memory -/
def headC (h : HeadV) : Array Value := #[.string (str h.name), .string (str h.link), .int .u8 (h.kind.toNat : Int), .int .i64 h.mode, .int .i64 h.uid, .int .i64 h.gid, .int .i64 h.time, .int .i64 h.size, .bool h.gnu]
theorem zeroC : headC zeroH = #[.string ⟨#[]⟩, .string ⟨#[]⟩, .int .u8 0, .int .i64 0, .int .i64 0, .int .i64 0, .int .i64 0, .int .i64 0, .bool false] := rfl
theorem load_head (w : World) (g : Nat) (a b : ByteArray) (k m u i t z : Int) (n : Bool) (h : w.heap[g]? = some (.cells #[.string a, .string b, .int .u8 k, .int .i64 m, .int .i64 u, .int .i64 i, .int .i64 t, .int .i64 z, .bool n] 25 (0, 0))) :
    (loadVar 25 ⟨g, 0, none⟩).run Tryd.prog w = .ok (.agg #[.string a, .string b, .int .u8 k, .int .i64 m, .int .i64 u, .int .i64 i, .int .i64 t, .int .i64 z, .bool n]) w := by
  have c0 := cellsAt h 0
  have c1 := cellsAt h 1
  have c2 := cellsAt h 2
  have c3 := cellsAt h 3
  have c4 := cellsAt h 4
  have c5 := cellsAt h 5
  have c6 := cellsAt h 6
  have c7 := cellsAt h 7
  have c8 := cellsAt h 8
  clear h
  go_simp
theorem ret_head {fn : Func} (hf : fn.results = #[.cell 2 25, .tmp 3]) (tmps : Array Value) (w : World) (g : Nat) (v : Value) (ht : tmps.getD 2 undef = .pointer (some ⟨g, 0, none⟩)) (hv : tmps.getD 3 undef = v)
    (a b : ByteArray) (k m u i t z : Int) (n : Bool) (h : w.heap[g]? = some (.cells #[.string a, .string b, .int .u8 k, .int .i64 m, .int .i64 u, .int .i64 i, .int .i64 t, .int .i64 z, .bool n] 25 (0, 0))) :
    (results fn tmps).run Tryd.prog w = .ok (.tuple #[.agg #[.string a, .string b, .int .u8 k, .int .i64 m, .int .i64 u, .int .i64 i, .int .i64 t, .int .i64 z, .bool n], v]) w := by
  rw [results_cell_tmp hf, ht, hv]
  have hl := load_head w g a b k m u i t z n h
  simp [asAddr, hl, Result.andThen]
/-- what Parse answers -/
def headA (x : HeadV × Int) : Value := .tuple #[.agg (headC x.1), .int .i64 x.2]
theorem lookB {w : World} {lo B : Nat} {r : Nat → Nat} {own : Nat → List UInt8} (h : PartsAt w lo B r own) (i : Nat) (hi : i < 11) :
    (Instr.lookup 44 (.map (some B)) (.int .i64 (i : Int)) false).run Tryd.prog w = .ok (.agg #[.int .i64 (atF i), .slice (some ⟨r i, 0, none⟩) (wideF i) (wideF i)]) w :=
  h.map.look (P := Tryd.prog) Tryd.underlying44 Tryd.underlying47 (x := i) (v := partV r i) (by unfold partF; rw [if_pos hi])
theorem numsO_read (bs : List UInt8) : numsO (readO bs) = numsOkB bs := by
  have e : ∀ i, 1 ≤ i → i ≤ 5 → readO bs i = fieldB bs i := fun i h1 h2 => if_pos (by omega)
  cases h : numsOkB bs with
  | true =>
    refine numsO_iff.2 fun i h1 h2 => ?_
    rw [e i h1 h2]
    exact numsOkB_iff.1 h i h1 h2
  | false =>
    cases h2 : numsO (readO bs) with
    | false => rfl
    | true =>
      have h5 : numsOkB bs = true := numsOkB_iff.2 fun i h3 h4 => by
        rw [← e i h3 h4]
        exact numsO_iff.1 h2 i h3 h4
      rw [h] at h5
      cases h5
theorem readO_at (bs : List UInt8) (i : Nat) (hi : i < 11) : readO bs i = fieldB bs i := if_pos hi
def zeroCs : Array Value := #[.string ⟨#[]⟩, .string ⟨#[]⟩, .int .u8 0, .int .i64 0, .int .i64 0, .int .i64 0, .int .i64 0, .int .i64 0, .bool false]
/-- behind the nine stores -/
theorem stored9 {w : World} {g : Nat} {e : TypeId} (h : w.heap[g]? = some (.cells zeroCs e (0, 0))) (v0 v1 v2 v3 v4 v5 v6 v7 v8 : Value) :
    (((((((((w.setCell ⟨g, 0, none⟩ v0).setCell ⟨g, 1, none⟩ v1).setCell ⟨g, 2, none⟩ v2).setCell ⟨g, 3, none⟩ v3).setCell ⟨g, 4, none⟩ v4).setCell ⟨g, 5, none⟩ v5).setCell ⟨g, 6, none⟩ v6).setCell ⟨g, 7, none⟩ v7).setCell ⟨g, 8, none⟩ v8).heap[g]? =
      some (.cells #[v0, v1, v2, v3, v4, v5, v6, v7, v8] e (0, 0)) := by
  have st : ∀ {w : World} {cs : Array Value} (i : Nat) (v : Value), w.heap[g]? = some (.cells cs e (0, 0)) → (w.setCell ⟨g, i, none⟩ v).heap[g]? = some (.cells (cs.setIfInBounds i v) e (0, 0)) := by
    intro w cs i v h
    rw [setCell_eq_setRow w g i _ _ _ _ h]
    exact setRow_heap w g _ _ _ _ h
  have h0 : (w.setCell ⟨g, 0, none⟩ v0).heap[g]? = some (.cells #[v0, .string ⟨#[]⟩, .int .u8 0, .int .i64 0, .int .i64 0, .int .i64 0, .int .i64 0, .int .i64 0, .bool false] e (0, 0)) := st 0 v0 h
  have h1 : ((w.setCell ⟨g, 0, none⟩ v0).setCell ⟨g, 1, none⟩ v1).heap[g]? = some (.cells #[v0, v1, .int .u8 0, .int .i64 0, .int .i64 0, .int .i64 0, .int .i64 0, .int .i64 0, .bool false] e (0, 0)) := st 1 v1 h0
  have h2 : (((w.setCell ⟨g, 0, none⟩ v0).setCell ⟨g, 1, none⟩ v1).setCell ⟨g, 2, none⟩ v2).heap[g]? = some (.cells #[v0, v1, v2, .int .i64 0, .int .i64 0, .int .i64 0, .int .i64 0, .int .i64 0, .bool false] e (0, 0)) := st 2 v2 h1
  have h3 : ((((w.setCell ⟨g, 0, none⟩ v0).setCell ⟨g, 1, none⟩ v1).setCell ⟨g, 2, none⟩ v2).setCell ⟨g, 3, none⟩ v3).heap[g]? = some (.cells #[v0, v1, v2, v3, .int .i64 0, .int .i64 0, .int .i64 0, .int .i64 0, .bool false] e (0, 0)) := st 3 v3 h2
  have h4 : (((((w.setCell ⟨g, 0, none⟩ v0).setCell ⟨g, 1, none⟩ v1).setCell ⟨g, 2, none⟩ v2).setCell ⟨g, 3, none⟩ v3).setCell ⟨g, 4, none⟩ v4).heap[g]? = some (.cells #[v0, v1, v2, v3, v4, .int .i64 0, .int .i64 0, .int .i64 0, .bool false] e (0, 0)) := st 4 v4 h3
  have h5 : ((((((w.setCell ⟨g, 0, none⟩ v0).setCell ⟨g, 1, none⟩ v1).setCell ⟨g, 2, none⟩ v2).setCell ⟨g, 3, none⟩ v3).setCell ⟨g, 4, none⟩ v4).setCell ⟨g, 5, none⟩ v5).heap[g]? = some (.cells #[v0, v1, v2, v3, v4, v5, .int .i64 0, .int .i64 0, .bool false] e (0, 0)) := st 5 v5 h4
  have h6 : (((((((w.setCell ⟨g, 0, none⟩ v0).setCell ⟨g, 1, none⟩ v1).setCell ⟨g, 2, none⟩ v2).setCell ⟨g, 3, none⟩ v3).setCell ⟨g, 4, none⟩ v4).setCell ⟨g, 5, none⟩ v5).setCell ⟨g, 6, none⟩ v6).heap[g]? = some (.cells #[v0, v1, v2, v3, v4, v5, v6, .int .i64 0, .bool false] e (0, 0)) := st 6 v6 h5
  have h7 : ((((((((w.setCell ⟨g, 0, none⟩ v0).setCell ⟨g, 1, none⟩ v1).setCell ⟨g, 2, none⟩ v2).setCell ⟨g, 3, none⟩ v3).setCell ⟨g, 4, none⟩ v4).setCell ⟨g, 5, none⟩ v5).setCell ⟨g, 6, none⟩ v6).setCell ⟨g, 7, none⟩ v7).heap[g]? = some (.cells #[v0, v1, v2, v3, v4, v5, v6, v7, .bool false] e (0, 0)) := st 7 v7 h6
  have h8 : (((((((((w.setCell ⟨g, 0, none⟩ v0).setCell ⟨g, 1, none⟩ v1).setCell ⟨g, 2, none⟩ v2).setCell ⟨g, 3, none⟩ v3).setCell ⟨g, 4, none⟩ v4).setCell ⟨g, 5, none⟩ v5).setCell ⟨g, 6, none⟩ v6).setCell ⟨g, 7, none⟩ v7).setCell ⟨g, 8, none⟩ v8).heap[g]? = some (.cells #[v0, v1, v2, v3, v4, v5, v6, v7, v8] e (0, 0)) := st 8 v8 h7
  exact h8
theorem kept9 {w0 w : World} {g : Nat} (h : Kept (oneB g) w0 w) (v0 v1 v2 v3 v4 v5 v6 v7 v8 : Value) :
    Kept (oneB g) w0 (((((((((w.setCell ⟨g, 0, none⟩ v0).setCell ⟨g, 1, none⟩ v1).setCell ⟨g, 2, none⟩ v2).setCell ⟨g, 3, none⟩ v3).setCell ⟨g, 4, none⟩ v4).setCell ⟨g, 5, none⟩ v5).setCell ⟨g, 6, none⟩ v6).setCell ⟨g, 7, none⟩ v7).setCell ⟨g, 8, none⟩ v8) := by
  have st : ∀ {w : World} (i : Nat) (v : Value), Kept (oneB g) w0 w → Kept (oneB g) w0 (w.setCell ⟨g, i, none⟩ v) := fun i v h => h.setCell (a := ⟨g, i, none⟩) (Or.inr (show oneB g g from rfl)) v
  exact st 8 v8 (st 7 v7 (st 6 v6 (st 5 v5 (st 4 v4 (st 3 v3 (st 2 v2 (st 1 v1 (st 0 v0 h))))))))
theorem ustar_str : str ustarB = ⟨#[117, 115, 116, 97, 114, 0, 48, 48]⟩ := rfl
theorem gnu_str : str gnuB = ⟨#[117, 115, 116, 97, 114, 32, 32, 0]⟩ := rfl
theorem beq_lists {a b : List UInt8} (h : a ≠ b) : ((str a).toList == (str b).toList) = false := by
  rw [str_toList, str_toList]
  simpa using h
end Go.Proofs.YtdnelijkhinpcabDoor.Head
