/- The document's own Text, by contract. Written by wip/tools/genrtext.py. -/
import Derived.Test.YtfmhdkemigpjjaaDoorPathPlain
import Derived.Test.YtfmhdkemigpjjaaDoorTxt
namespace Go.Proofs.YtfmhdkemigpjjaaDoor.Path
open Go.ChangeShapes Go.WideShapes Go.ChangeAt Go.RowKit Go.Proofs.YtfmhdkemigpjjaaDoor.Base Go.Proofs.YtfmhdkemigpjjaaDoor.Byt Go.Proofs.YtfmhdkemigpjjaaDoor.Txt Go.Lib
set_option linter.unusedVariables false
set_option maxRecDepth 100000

theorem at_drop (s : ByteArray) (k m : Nat) (h : k + m < s.size) : at_ (s.data.toList.drop k) m = (s[k + m]).toNat := by
  unfold at_
  have h' : k + m < s.data.toList.length := by rw [← size_of]; exact h
  simp only [List.getD, List.getElem?_drop]
  rw [List.getElem?_eq_getElem h']
  rfl
theorem text_no (l : List UInt8) (hl : l ≠ []) (h : ¬ headOk l) : textD l = false := by rw [textD_step l hl, if_neg h]
theorem text_yes (l : List UInt8) (hl : l ≠ []) (h : headOk l) : textD l = textD (l.drop (wideC (at_ l 0))) := by rw [textD_step l hl, if_pos h]

end Go.Proofs.YtfmhdkemigpjjaaDoor.Path
