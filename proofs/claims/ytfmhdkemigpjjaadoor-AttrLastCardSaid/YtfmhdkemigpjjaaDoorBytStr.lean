/- '[]byte(s)' of a string that is no constant: a new row that reads as the string's bytes. -/
import Derived.Test.YtfmhdkemigpjjaaDoorByt
import Derived.Lib.ConvBytes
import Derived.Laws.AppendOwn
namespace Go.Proofs.YtfmhdkemigpjjaaDoor.Byt
open Go.ChangeShapes Go.WideShapes Go.ChangeAt Go.RowKit Go.Proofs.YtfmhdkemigpjjaaDoor.Base Go.Lib
set_option linter.unusedVariables false

theorem str_below (w : World) (e : TypeId) (s : ByteArray) : Below w.heap.size w (bytesWorld w e s) :=
  ⟨rfl, rfl, rfl, by rw [bytesWorld_size]; omega, fun k hk => bytesWorld_at_old w e s k hk⟩
theorem str_bat (w : World) (e : TypeId) (s : ByteArray) : BAt (bytesWorld w e s) (some ⟨w.heap.size, 0, none⟩) s.size s.data.toList := fun _ =>
  ⟨_, 0, rfl, fun i hi => by rw [Nat.zero_add]; exact bytesWorld_cell w e s i hi⟩
theorem str_cap (w : World) (e : TypeId) (s : ByteArray) (h : s.size ≤ maxLen) : s.size ≤ grownCap w s.size 0 e ∧ grownCap w s.size 0 e ≤ maxLen :=
  ⟨grownCap_ge w s.size 0 e, grownCap_le_maxLen w s.size 0 e h⟩
theorem str_len (s : ByteArray) : s.data.toList.length = s.size := by simp
theorem str_app (a b : ByteArray) : (a ++ b).data.toList = a.data.toList ++ b.data.toList := by simp [ByteArray.data_append]
end Go.Proofs.YtfmhdkemigpjjaaDoor.Byt
