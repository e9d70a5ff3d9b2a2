/- Merged. -/
import Derived.Test.YtdhibldkldlfpaaGreatDoorEmitSortedX27
import Derived.StillTailTactics

