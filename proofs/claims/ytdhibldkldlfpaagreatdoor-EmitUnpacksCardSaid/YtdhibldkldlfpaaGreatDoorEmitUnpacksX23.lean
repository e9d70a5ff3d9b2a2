/- Merged. -/
import Derived.Test.YtdhibldkldlfpaaGreatDoorEmitUnpacksX14
import Derived.Lib.AppendZerosOnto

