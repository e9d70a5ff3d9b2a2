/- Texts of this seat, merged: what the proof reaches. -/
import Derived.Test.YtphehianajckaaaHeapPlaysX3
import Derived.OpenShut
import Derived.ShutString
import Derived.Test.YtphehianajckaaaHeapPlaysX2

