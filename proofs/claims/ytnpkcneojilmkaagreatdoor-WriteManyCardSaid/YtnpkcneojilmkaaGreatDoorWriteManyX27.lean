/- Texts of this seat, merged: what the proof reaches. -/
import Derived.Test.YtnpkcneojilmkaaGreatDoorWriteManyX26
import Derived.Test.YtnpkcneojilmkaaGreatDoorWriteManyX20
import Derived.Test.YtnpkcneojilmkaaGreatDoorWriteManyX23
import Derived.StillTailTactics

