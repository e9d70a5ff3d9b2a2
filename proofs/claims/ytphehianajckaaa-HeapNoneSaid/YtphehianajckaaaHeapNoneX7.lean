/- Texts of this seat, merged: what the proof reaches. -/
import Derived.Test.YtphehianajckaaaHeapNoneX3
import Derived.OpenShut
import Derived.ShutString
import Derived.Test.YtphehianajckaaaHeapNoneX2

