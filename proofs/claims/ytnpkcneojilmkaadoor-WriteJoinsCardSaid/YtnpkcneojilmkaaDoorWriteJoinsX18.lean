/- Texts of this seat, merged: what the proof reaches. -/
import Derived.Test.YtnpkcneojilmkaaDoorWriteJoinsX11
import Derived.Lib.AppendZerosOnto

