/- Texts of this seat, merged: what the proof reaches. -/
import Derived.Test.YtnpkcneojilmkaaGreatDoorMemberGNUX23
import Derived.Deep.SlicePairs
import Derived.OpenShut
import Derived.SizedLaws

