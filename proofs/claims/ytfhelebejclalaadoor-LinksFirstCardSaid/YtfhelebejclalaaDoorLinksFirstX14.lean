/- Texts of this seat, merged: what the proof reaches. -/
import Derived.Test.YtfhelebejclalaaDoorLinksFirstX6
import Derived.Maps.Own
import Derived.Sort.KeysCollected
import Derived.WideShapes
import Derived.StringKeys

