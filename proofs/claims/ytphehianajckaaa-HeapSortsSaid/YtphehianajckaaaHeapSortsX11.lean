/- Texts of this seat, merged: what the proof reaches. -/
import Derived.Test.YtphehianajckaaaHeapSortsX5
import Derived.Lib.AppendZerosOnto
import Derived.Test.YtphehianajckaaaHeapSortsX4
import Derived.Test.YtphehianajckaaaHeapSortsX3
import Derived.Lib.AppendStr

