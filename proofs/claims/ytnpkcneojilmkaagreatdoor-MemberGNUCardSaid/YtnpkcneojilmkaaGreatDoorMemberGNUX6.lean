/- Texts of this seat, merged: what the proof reaches. -/
import Derived.Test.YtnpkcneojilmkaaGreatDoorRows
import Derived.Shelf.Strconv.Itoa3

