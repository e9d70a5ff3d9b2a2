/- Texts of this seat, merged: what the proof reaches. -/
import Derived.Test.YtfhelebejclalaaDoorRows
import Derived.Shelf.SlSortCmp.Whole1

