/- The walks over the laws of layer field: each returns true, and writes nothing that was there. -/
import Derived.Test.YtdnelijkhinpcabDoorFieldParse
import Derived.Test.YtdnelijkhinpcabDoorRefField
import Derived.Test.YtdnelijkhinpcabDoorRefPut
import Derived.Lib.SlBytesConst
namespace Go.Proofs.YtdnelijkhinpcabDoor.Field
open Go.ChangeShapes Go.WideShapes Go.ChangeAt Go.RowKit Go.Proofs.YtdnelijkhinpcabDoor.Base Go.Proofs.YtdnelijkhinpcabDoor.Num Go.Proofs.YtdnelijkhinpcabDoor.Fp Go.Proofs.YtdnelijkhinpcabDoor.Byt
set_option linter.unusedVariables false
open Go.Lib (bytesOf)

theorem vI_some (x : Int) : valI (some x) = x := rfl
theorem oI_some (x : Int) : okI (some x) = true := rfl
theorem vI_none : valI none = 0 := rfl
theorem oI_none : okI none = false := rfl
/-- what Put leaves, as a slice of bytes -/
theorem put_bat {w w' : World} {r : Option (List Int)} {n wide : Int} (hr : r = putF n wide) {l : List Int} {v : Value} (h : r = some l) (hown : w'.ownsRow w.heap.size 5 1 v l.length (l.map (Value.int .u8))) :
    ∃ p c, v = .slice p l.length c ∧ l.length ≤ c ∧ c ≤ maxLen ∧ BAt w' p l.length (bytesOf l) ∧ (bytesOf l).length = l.length :=
  bat_of_own hown (putF_bd (hr ▸ h))
/-- a list of bytes that has just been laid -/
theorem new_bat (w : World) (l : List Int) (t : TypeId) (hl : ∀ x ∈ l, 0 ≤ x ∧ x < 256) : BAt (w.alloc (.cells (l.map (Value.int .u8)).toArray t)) (some ⟨w.heap.size, 0, none⟩) l.length (bytesOf l) :=
  bat_of_ints rfl hl fun h0 => ⟨_, 0, rfl, fun i hi => by
    rw [World.cell?_alloc_at _ _ _ _ rfl, Nat.zero_add]
    simp [List.getD, hi]⟩
/-- a constant list of bytes: the row is laid, and marked behind its end -/
theorem const_bat (w : World) (l : List Int) (t : TypeId) (fr : Nat × Nat) (hl : ∀ x ∈ l, 0 ≤ x ∧ x < 256) : BAt (w.alloc (.cells (l.map (Value.int .u8)).toArray t fr)) (some ⟨w.heap.size, 0, none⟩) l.length (bytesOf l) :=
  bat_of_ints rfl hl fun h0 => ⟨_, 0, rfl, fun i hi => by
    rw [World.cell?_alloc_mark, Nat.zero_add]
    simp [List.getD, hi]⟩
end Go.Proofs.YtdnelijkhinpcabDoor.Field
