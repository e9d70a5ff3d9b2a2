/- Merged. -/
import Derived.Test.YtdhibldkldlfpaaGreatDoorEmitOnceX28
import Derived.StillTailTactics

