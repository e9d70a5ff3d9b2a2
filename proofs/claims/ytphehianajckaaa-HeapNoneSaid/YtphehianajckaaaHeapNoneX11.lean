/- Texts of this seat, merged: what the proof reaches. -/
import Derived.Test.YtphehianajckaaaHeapNoneX5
import Derived.Lib.AppendZerosOnto
import Derived.Test.YtphehianajckaaaHeapNoneX4
import Derived.Test.YtphehianajckaaaHeapNoneX3
import Derived.Lib.AppendStr

