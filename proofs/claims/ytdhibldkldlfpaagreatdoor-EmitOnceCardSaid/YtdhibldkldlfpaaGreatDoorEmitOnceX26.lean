/- Merged. -/
import Derived.Test.YtdhibldkldlfpaaGreatDoorEmitOnceX24
import Derived.Deep.SlicePairs

