/- Texts of this seat, merged: what the proof reaches. -/
import Derived.Test.YtnpkcneojilmkaaDoorRows
import Derived.Shelf.Pu.ErrVarParseUint

