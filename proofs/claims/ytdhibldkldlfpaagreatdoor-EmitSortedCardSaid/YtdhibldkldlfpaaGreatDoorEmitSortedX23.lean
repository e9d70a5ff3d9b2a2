/- Merged. -/
import Derived.Test.YtdhibldkldlfpaaGreatDoorEmitSortedX14
import Derived.Lib.AppendZerosOnto

