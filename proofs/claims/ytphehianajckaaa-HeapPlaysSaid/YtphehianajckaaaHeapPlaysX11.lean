/- Texts of this seat, merged: what the proof reaches. -/
import Derived.Test.YtphehianajckaaaHeapPlaysX5
import Derived.Lib.AppendZerosOnto
import Derived.Test.YtphehianajckaaaHeapPlaysX4
import Derived.Test.YtphehianajckaaaHeapPlaysX3
import Derived.Lib.AppendStr

