/- The document's own answers for fields: Octal and Field. -/
import Derived.Test.YtdnelijkhinpcabDoorField
namespace Go.Proofs.YtdnelijkhinpcabDoor.Field
open Go.ChangeShapes Go.WideShapes Go.ChangeAt Go.RowKit Go.Proofs.YtdnelijkhinpcabDoor.Base Go.Proofs.YtdnelijkhinpcabDoor.Num Go.Proofs.YtdnelijkhinpcabDoor.Fp Go.Proofs.YtdnelijkhinpcabDoor.Byt
set_option linter.unusedVariables false
set_option maxRecDepth 100000

theorem str_at (s : ByteArray) (k : Nat) (h : k < s.size) : s.data.toList.getD k 0 = s[k] := by
  rw [List.getD, List.getElem?_eq_getElem (show k < s.data.toList.length by simpa using h)]
  rfl
/-- what the document's own Field answers -/
def refParse : List UInt8 → Int × Bool
  | [] => (0, false)
  | c :: l => if (c.toNat : Int) = 128 then refO 256 0 18014398509481984 l 0 else refO 8 48 576460752303423488 (Lib.trimRightS (Lib.trimLeftS (c :: l) [32]) [32, 0]) 0
theorem refParse_is (bs : List UInt8) : (refParse bs).2 = okI (parseF bs) ∧ (okI (parseF bs) = true → (refParse bs).1 = valI (parseF bs)) := by
  cases bs with
  | nil => exact ⟨rfl, fun h => by simp [parseF, okI] at h⟩
  | cons c l =>
    rw [refParse, parseF]
    split
    · exact refO_dig256 l 0 (by omega) (by omega)
    · exact refO_dig8 _ 0 (by omega) (by omega)

end Go.Proofs.YtdnelijkhinpcabDoor.Field
