/- Texts as lists of bytes, in the walk's words: a string as a list, its parts, sums and comparisons. -/
import Derived.Test.YtfmhdkemigpjjaaDoorByt
import Derived.Lib.IndexLaws
import Derived.Lib.Strings
import Derived.Laws.Strings3
import Derived.MapKept
namespace Go.Proofs.YtfmhdkemigpjjaaDoor.Txt
open Go.ChangeShapes Go.WideShapes Go.ChangeAt Go.RowKit Go.Proofs.YtfmhdkemigpjjaaDoor.Base Go.Proofs.YtfmhdkemigpjjaaDoor.Byt Go.Lib
set_option linter.unusedVariables false

/-- a text as a string -/
def str (l : List UInt8) : ByteArray := ⟨l.toArray⟩
theorem str_data (l : List UInt8) : (str l).data.toList = l := by simp [str]
theorem str_of (s : ByteArray) : str s.data.toList = s := by
  apply ByteArray.ext
  simp [str]
theorem str_size (l : List UInt8) : (str l).size = l.length := by simp [str, ByteArray.size]
theorem str_app (a b : List UInt8) : str a ++ str b = str (a ++ b) := by
  apply ByteArray.ext
  simp [str, ByteArray.data_append]
theorem str_inj {a b : List UInt8} (h : str a = str b) : a = b := by
  have := congrArg (fun s : ByteArray => s.data.toList) h
  simpa [str_data] using this
theorem size_of (s : ByteArray) : s.size = s.data.toList.length := Lib.size_eq s
theorem str_toList (l : List UInt8) : (str l).toList = l := by rw [Lib.toList_data, str_data]
theorem str_beq (a b : List UInt8) : (str a == str b) = decide (a = b) := by
  by_cases h : a = b
  · subst h
    simpa using (MapKept.bytes_beq (str a) (str a)).2 rfl
  · cases hc : str a == str b with
    | true => exact absurd (str_inj ((MapKept.bytes_beq _ _).1 hc)) h
    | false => simpa using h
theorem str_empty (l : List UInt8) : (str l).toList.isEmpty = decide (l = []) := by
  rw [str_toList]
  cases l <;> simp
theorem str_is (l c : List UInt8) : ((str l).toList == c) = decide (l = c) := by
  rw [str_toList]
  by_cases h : l = c
  · subst h; simp
  · simp [h]
theorem str_take (l : List UInt8) (k : Nat) : (str l).extract 0 k = str (l.take k) := by
  apply ByteArray.ext
  simp [str, ByteArray.data_extract]
theorem str_drop (l : List UInt8) (k n : Nat) (h : n = l.length) : (str l).extract k n = str (l.drop k) := by
  subst h
  apply ByteArray.ext
  simp [str, ByteArray.data_extract, List.take_of_length_le]
/-- whether a byte is there -/
theorem index_has (l : List UInt8) (c : UInt8) : decide (0 ≤ Lib.indexByte l c) = l.contains c := by
  induction l with
  | nil => simp [Lib.indexByte]
  | cons b l ih =>
    have hge := Lib.indexByte_ge l c
    by_cases hb : b = c
    · subst hb
      simp [Lib.indexByte]
    · have hbb : (b == c) = false := by simpa using hb
      by_cases hi : Lib.indexByte l c = -1
      · have e : Lib.indexByte (b :: l) c = -1 := by simp [Lib.indexByte, hbb, hi]
        rw [hi] at ih
        rw [e, List.contains_cons, ← ih]
        simpa using fun h => hb h.symm
      · have hi' : (Lib.indexByte l c == -1) = false := by simpa using hi
        have e : Lib.indexByte (b :: l) c = Lib.indexByte l c + 1 := by simp [Lib.indexByte, hbb, hi']
        rw [List.contains_cons, ← ih, e, decide_eq_true (by omega), decide_eq_true (by omega), Bool.or_true]
theorem has_false {l : List UInt8} {c : UInt8} (h : l.contains c = false) (i : Nat) (hi : i < l.length) : l.getD i 0 ≠ c := fun e => by
  have hm : c ∈ l := by
    rw [← e, List.getD, List.getElem?_eq_getElem hi]
    exact List.getElem_mem hi
  have := List.contains_iff_mem.2 hm
  rw [h] at this
  cases this
/-- a list of one byte, just made -/
theorem byte_bat (w : World) (t : TypeId) (x : UInt8) (m : Int) (h : (x.toNat : Int) = m) : BAt (w.alloc (.cells #[.int .u8 m] t)) (some ⟨w.heap.size, 0, none⟩) 1 [x] := fun _ => ⟨_, _, rfl, fun i hi => by
  obtain rfl : i = 0 := by omega
  rw [World.cell?_alloc_at _ _ _ _ rfl]
  show some (Value.int .u8 m) = some (Value.int .u8 (x.toNat : Int))
  rw [h]⟩
end Go.Proofs.YtfmhdkemigpjjaaDoor.Txt
