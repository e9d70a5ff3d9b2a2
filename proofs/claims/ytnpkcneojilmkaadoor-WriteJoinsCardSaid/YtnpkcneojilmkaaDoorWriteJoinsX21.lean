/- Texts of this seat, merged: what the proof reaches. -/
import Derived.Test.YtnpkcneojilmkaaDoorWriteJoinsX20
import Derived.Test.YtnpkcneojilmkaaDoorWriteJoinsX3
import Derived.Test.YtnpkcneojilmkaaDoorWriteJoinsX10
import Derived.Lib.SlBytesConst

