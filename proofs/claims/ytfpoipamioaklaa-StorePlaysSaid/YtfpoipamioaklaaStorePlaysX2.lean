/- Texts of this seat, merged: what the proof reaches. -/
import Derived.Lib.SlTrimSet
import Derived.Lib.Bytes

