/- Texts of this seat, merged: what the proof reaches. -/
import Derived.Test.YtnpkcneojilmkaaGreatDoorWriteReadX14
import Derived.Lib.AppendZerosOnto

