/- Merged. -/
import Derived.Test.YtdhibldkldlfpaaGreatDoorEmitUnpacksX18
import Derived.Deep.SlicePairs
import Derived.Deep.Grids
import Derived.Deep.Matrix

