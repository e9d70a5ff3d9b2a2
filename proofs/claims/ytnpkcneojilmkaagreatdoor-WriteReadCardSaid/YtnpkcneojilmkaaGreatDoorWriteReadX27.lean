/- Texts of this seat, merged: what the proof reaches. -/
import Derived.Test.YtnpkcneojilmkaaGreatDoorWriteReadX26
import Derived.Test.YtnpkcneojilmkaaGreatDoorWriteReadX20
import Derived.Test.YtnpkcneojilmkaaGreatDoorWriteReadX23
import Derived.StillTailTactics

