/- Merged. -/
import Derived.Test.YtdhibldkldlfpaaGreatDoorEmitOnceX14
import Derived.Lib.AppendZerosOnto

