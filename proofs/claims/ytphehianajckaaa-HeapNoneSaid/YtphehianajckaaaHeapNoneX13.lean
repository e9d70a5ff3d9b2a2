/- Texts of this seat, merged: what the proof reaches. -/
import Derived.Test.YtphehianajckaaaHeapNoneX12
import Derived.Deep.SlicePairs
import Derived.OpenShut
import Derived.SizedLaws

