/- Texts of this seat, merged: what the proof reaches. -/
import Derived.Test.YtnpkcneojilmkaaDoorWritePutsX20
import Derived.Test.YtnpkcneojilmkaaDoorWritePutsX3
import Derived.Test.YtnpkcneojilmkaaDoorWritePutsX10
import Derived.Lib.SlBytesConst

