/- Texts of this seat, merged: what the proof reaches. -/
import Derived.Test.YtfpoipamioaklaaStorePartsX1
import Derived.OpenShut
import Derived.ShutString

