/- Texts of this seat, merged: what the proof reaches. -/
import Derived.Test.YtdjedimjhogdoaaGreatDoorRows
import Derived.Shelf.Strconv.Itoa3

