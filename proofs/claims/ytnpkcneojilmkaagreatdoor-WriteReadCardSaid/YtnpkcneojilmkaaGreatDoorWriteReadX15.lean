/- Texts of this seat, merged: what the proof reaches. -/
import Derived.Test.YtnpkcneojilmkaaGreatDoorWriteReadX11
import Derived.OpenShut
import Derived.SizedLaws

