/- Texts of this seat, merged: what the proof reaches. -/
import Derived.Test.YtfhelebejclalaaDoorLinksBackX11
import Derived.Shelf.Unicode.ValidAny
namespace Go.Proofs.YtfhelebejclalaaDoor
namespace Base
end Base
namespace Byt
end Byt
namespace Num
end Num
namespace Txt
end Txt
end Go.Proofs.YtfhelebejclalaaDoor
section
namespace Go.Proofs.YtfhelebejclalaaDoor.Path
open Go.ChangeShapes Go.WideShapes Go.ChangeAt Go.RowKit Go.Shelf Base Byt Txt Go.Lib Num
set_option linter.unusedVariables false
set_option maxRecDepth 100000
theorem right_any (l:List UInt8) (w:World) (hm:l.length≤140737488351232) (hT:Tabs w) :
 Calls Tryd.prog 54 #[.string (str l)] w fun e w' => e=.returned (.bool (textD l))∧Below w.heap.size w w':=by
 have hV:=Any.utf8_ValidString Tryd.laysValid (str l) w (by rw [str_size];omega) hT
 have hC:=fun w => Any.strings_Contains_one Tryd.laysConts (str l) 0 w
 rw [str_data] at hV;simp only [str_data,index_has] at hC;rw [text_valid];have mixed:Tryd.prog.follows .mixedOrders=true:=by kernel_rfl
 clear hT hm
 cases hv:Lib.validD l with
 | false =>
   rw [hv] at hV;clear hC
   go_enter Tryd.func54,Tryd.ntmps54
   go_wp2_with (go_at_call 63;refine hV.mono ?_;rintro e w1 ⟨rfl,hb⟩)
   go_ret
   exact ⟨rfl,hb⟩
 | true =>
   rw [hv] at hV
   cases hc:l.contains 0 with
   | false =>
     rw [hc] at hC
     go_enter Tryd.func54,Tryd.ntmps54
     go_wp2_with (first | (go_at_call 63;refine hV.mono ?_;rintro e w1 ⟨rfl,hb⟩) | (go_at_call 64;refine (hC _).mono ?_;rintro e w2 ⟨rfl,rfl⟩))
     go_ret
     exact ⟨rfl,hb⟩
   | true =>
     rw [hc] at hC
     go_enter Tryd.func54,Tryd.ntmps54
     go_wp2_with (first | (go_at_call 63;refine hV.mono ?_;rintro e w1 ⟨rfl,hb⟩) | (go_at_call 64;refine (hC _).mono ?_;rintro e w2 ⟨rfl,rfl⟩))
     go_ret
     exact ⟨rfl,hb⟩
theorem target_any (l:List UInt8) (w:World) (hm:l.length≤140737488351232) (hT:Tabs w) :
 Calls Tryd.prog 59 #[.string (str l)] w fun e w' => e=.returned (.int .i64 (targetD 9 6 l))∧Below w.heap.size w w':=by
 have hR:=right_any l w hm hT;have hs:(str l).size=l.length:=str_size l;unfold targetD;clear hT
 cases ht:textD l with
 | false =>
   rw [ht] at hR;rw [if_pos rfl];clear hm hs
   go_enter Tryd.func59,Tryd.ntmps59
   go_wp2_with (go_at_call 54;refine hR.mono ?_;rintro e w1 ⟨rfl,hb⟩)
   go_ret
   exact ⟨rfl,hb⟩
 | true =>
   rw [ht] at hR;rw [if_neg (by simp)]
   obtain ⟨n,hn⟩:∃ n,(str l).size=n:=⟨_,rfl⟩
   by_cases h:l=[] ∨ 200 < l.length
   ·have hi:inB (n:Int) 1 200=false:=by
     refine inB_false ?_
     rw [← hn,hs];rcases h with rfl | h
     ·simp
     ·omega
    rw [if_pos h];clear hm hs h
    go_enter Tryd.func59,Tryd.ntmps59
    go_wp2_with (first | (go_at_call 54;refine hR.mono ?_;rintro e w1 ⟨rfl,hb⟩) | (go_at_call 58;refine (in_any _ _ _ _).mono ?_;rw [hi];rintro e w2 ⟨rfl,rfl⟩))
    go_ret
    exact ⟨rfl,hb⟩
   ·have hi:inB (n:Int) 1 200=true:=by
     have:0 < l.length:=List.length_pos_iff.2 fun e => h (.inl e)
     exact inB_true (by omega) (by omega)
    rw [if_neg h];clear hm hs h
    go_enter Tryd.func59,Tryd.ntmps59
    go_wp2_with (first | (go_at_call 54;refine hR.mono ?_;rintro e w1 ⟨rfl,hb⟩) | (go_at_call 58;refine (in_any _ _ _ _).mono ?_;rw [hi];rintro e w2 ⟨rfl,rfl⟩))
    go_ret
    exact ⟨rfl,hb⟩
end Go.Proofs.YtfhelebejclalaaDoor.Path
end
