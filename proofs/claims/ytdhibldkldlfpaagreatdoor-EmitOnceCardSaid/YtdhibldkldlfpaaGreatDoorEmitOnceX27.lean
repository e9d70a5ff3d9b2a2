/- Merged. -/
import Derived.Test.YtdhibldkldlfpaaGreatDoorEmitOnceX18
import Derived.Deep.SlicePairs
import Derived.Deep.Grids
import Derived.Deep.Matrix

