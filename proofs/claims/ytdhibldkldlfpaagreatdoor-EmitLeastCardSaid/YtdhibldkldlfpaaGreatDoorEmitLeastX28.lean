/- Merged. -/
import Derived.Test.YtdhibldkldlfpaaGreatDoorEmitLeastX27
import Derived.StillTailTactics

