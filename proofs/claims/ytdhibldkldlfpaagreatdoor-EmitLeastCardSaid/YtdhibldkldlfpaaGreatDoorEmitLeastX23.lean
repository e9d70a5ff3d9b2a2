/- Merged. -/
import Derived.Test.YtdhibldkldlfpaaGreatDoorEmitLeastX14
import Derived.Lib.AppendZerosOnto

