/- Texts of this seat, merged: what the proof reaches. -/
import Derived.Test.YtpdpgjilalojjaaRecRowX3
import Derived.OpenShut
import Derived.ShutString
import Derived.Test.YtpdpgjilalojjaaRecRowX2
namespace Go.Proofs.Ytpdpgjilalojjaa
namespace Base
end Base
end Go.Proofs.Ytpdpgjilalojjaa
section
namespace Go.Proofs.Ytpdpgjilalojjaa.Num
open Go.ChangeShapes Go.WideShapes Go.ChangeAt Go.RowKit Base
set_option linter.unusedVariables false
theorem may_yes (n:Int) (w:World) (h1:0≤n) (h2:n≤4611686018427387904) :
 Calls Try.prog 25 #[.int .i64 n] w fun e w' => e=.returned (.bool true)∧w=w':=by
 go_enter Try.func25,Try.ntmps25
 go_wp2
 go_ret
 exact ⟨rfl,rfl⟩
theorem may_no (n:Int) (w:World) (h:¬ (0≤n∧n≤4611686018427387904)) :
 Calls Try.prog 25 #[.int .i64 n] w fun e w' => e=.returned (.bool false)∧w=w':=by
 by_cases h1:0≤n
 ·have h2:¬ n≤4611686018427387904:=fun h2 => h ⟨h1,h2⟩
  clear h
  go_enter Try.func25,Try.ntmps25
  go_wp2
  go_ret
  exact ⟨rfl,rfl⟩
 ·clear h
  go_enter Try.func25,Try.ntmps25
  go_wp2
  go_ret
  exact ⟨rfl,rfl⟩
end Go.Proofs.Ytpdpgjilalojjaa.Num
end
