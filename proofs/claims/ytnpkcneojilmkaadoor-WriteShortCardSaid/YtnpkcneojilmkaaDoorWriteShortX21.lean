/- Texts of this seat, merged: what the proof reaches. -/
import Derived.Test.YtnpkcneojilmkaaDoorWriteShortX20
import Derived.Test.YtnpkcneojilmkaaDoorWriteShortX3
import Derived.Test.YtnpkcneojilmkaaDoorWriteShortX10
import Derived.Lib.SlBytesConst

