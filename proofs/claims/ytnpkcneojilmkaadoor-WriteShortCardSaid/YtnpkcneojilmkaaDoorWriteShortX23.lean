/- Texts of this seat, merged: what the proof reaches. -/
import Derived.Test.YtnpkcneojilmkaaDoorWriteShortX17
import Derived.Test.YtnpkcneojilmkaaDoorWriteShortX13
import Derived.WalkSpells
import Derived.Lib.IndexBytes
section
namespace Go.Proofs.YtnpkcneojilmkaaDoor.Head
open Go.ChangeShapes Go.WideShapes Go.ChangeAt Go.RowKit Base Byt Txt Hp Go.Proofs.YtnpkcneojilmkaaDoor.Mp Num
set_option linter.unusedVariables false
set_option maxRecDepth 100000
def cutV (name:List UInt8):Value:=
 match cutR name with
 | some (p,s) => .tuple #[.string (str p),.string (str s),.bool true]
 | none => .tuple #[.string ⟨#[]⟩,.string ⟨#[]⟩,.bool false]
theorem cutV_some {name p s:List UInt8} (h:cutR name=some (p,s)):cutV name=.tuple #[.string (str p),.string (str s),.bool true]:=by rw [cutV,h]
theorem cutV_none {name:List UInt8} (h:cutR name=none):cutV name=.tuple #[.string ⟨#[]⟩,.string ⟨#[]⟩,.bool false]:=by rw [cutV,h]
theorem ext_take (s:ByteArray) (k:Nat):s.extract 0 k=str (s.data.toList.take k):=by
 apply ByteArray.ext;apply Array.toList_inj.1;rw [ByteArray.data_extract,Array.toList_extract];rfl
theorem ext_drop (s:ByteArray) (k:Nat):s.extract k s.size=str (s.data.toList.drop k):=by
 apply ByteArray.ext;apply Array.toList_inj.1;rw [ByteArray.data_extract,Array.toList_extract];show (s.data.toList.drop k).take (s.size - k)=s.data.toList.drop k;rw [List.take_of_length_le];rw [List.length_drop,Array.length_toList];exact Nat.le_refl _
theorem s_at (s:ByteArray) (k:Nat) (h:k < s.size):s.data.toList.getD k 0=s[k]:=by
 rw [List.getD,List.getElem?_eq_getElem (show k < s.data.toList.length by simpa using h)]
 rfl
set_option maxHeartbeats 2000000 in
theorem hcut_any (s:ByteArray) (w:World) (hm:s.size≤140737488351232) :
 Calls Tryd.prog 50 #[.string s] w fun e w' => e=.returned (cutV s.data.toList)∧Kept noneB w w':=by
 have hlen:s.data.toList.length=s.size:=by simp
 have HLEN:=Lib.hid hlen;clear hlen
 by_cases hshort:s.size≤100
 ·have E:Hid (cutV s.data.toList=.tuple #[.string ⟨#[]⟩,.string s,.bool true]):=Lib.hid (by
   rw [cutV_some (cutR_short (by rw [HLEN.out];exact hshort)),str_of];rfl)
  go_enter Tryd.func50,Tryd.ntmps50
  go_wp2
  go_ret3
  rw [E.out];exact ⟨rfl,Kept.refl _ _⟩
 ·have HS:Hid (¬ s.data.toList.length≤100):=Lib.hid (by rw [HLEN.out];exact hshort)
  go_enter Tryd.func50,Tryd.ntmps50
  go_wp2_with fail
  go_loopw [14] (fun i wr => ∃ (k:Nat),k≤s.size∧i=.int .i64 k∧Hid (∀ j,j < k → ¬ mayCut s.data.toList j)∧Hid (Kept noneB w wr)) (fun i _ => s.size - (RowKit.intOf i).toNat)
  case atStart => exact ⟨0,Nat.zero_le _,rfl,Lib.hid (fun j hj => by omega),Lib.hid (Kept.refl _ _)⟩
  case round =>
   obtain ⟨k,hk,rfl,hr,hK⟩:=hrel
   by_cases hlt:k < s.size
   ·have hxg:Hid (((s[k]).toNat:Int)=((s.data.toList.getD k 0).toNat:Int)):=Lib.hid (by rw [s_at s k hlt])
    have e1:(s.extract 0 k).size=k:=by rw [ext_take,str_size,List.length_take,HLEN.out];omega
    have e2:(s.extract (k+1) s.size).size=s.size - (k+1):=by rw [ext_drop,str_size,List.length_drop,HLEN.out]
    have HNO:Hid ((¬ mayCut s.data.toList k) → ∀ j,j < k+1 → ¬ mayCut s.data.toList j):=Lib.hid (fun h j hj => by
     rcases Nat.lt_succ_iff_lt_or_eq.1 hj with h' | rfl
     ·exact hr.out j h'
     ·exact h)
    have E3:=Lib.hid (ext_take s k);have E4:=Lib.hid (ext_drop s (k+1));have hxb:=u8_bd (s[k]);obtain ⟨hx0,hx1⟩:=hxb;have HK:=Lib.hid (fun nq => hK.out.drewN nq)
    by_cases hc:((s[k]).toNat:Int)=47
    ·have HC:Hid (s.data.toList.getD k 0=47):=Lib.hid (UInt8.toNat_inj.1 (show (s.data.toList.getD k 0).toNat=47 by have:=hxg.out;omega))
     have hcb:(((s[k]).toNat:Int) == 47)=true:=by simpa using hc
     by_cases hb:1≤s.size - (k+1)∧s.size - (k+1)≤100
     ·obtain ⟨hb1,hb2⟩:=hb
      by_cases ha:1≤k∧k≤155
      ·obtain ⟨ha1,ha2⟩:=ha
       have hm:Hid (mayCut s.data.toList k):=Lib.hid ⟨HC.out,ha1,ha2,by rw [HLEN.out];omega,by rw [HLEN.out];omega⟩
       have E:Hid (cutV s.data.toList=.tuple #[.string (s.extract 0 k),.string (s.extract (k+1) s.size),.bool true]):=Lib.hid (by
        rw [cutV_some (cutR_at HS.out hm.out hr.out),← E3.out,← E4.out])
       go_wp2_with fail
       go_quiet (fail)
       go_wp2_with (go_at_call 59;first | (refine (in_yes _ _ _ _ (by omega) (by omega)).mono ?_;rintro e wz ⟨rfl,rfl⟩) | (refine (in_no _ _ _ _ (by omega)).mono ?_;rintro e wz ⟨rfl,rfl⟩))
       go_ret3
       rw [E.out];exact ⟨rfl,HK.out _⟩
      ·have HM:Hid (¬ mayCut s.data.toList k):=Lib.hid (fun h => ha ⟨h.2.1,h.2.2.1⟩)
       go_wp2_with fail
       go_quiet (fail)
       go_wp2_with (go_at_call 59;first | (refine (in_yes _ _ _ _ (by omega) (by omega)).mono ?_;rintro e wz ⟨rfl,rfl⟩) | (refine (in_no _ _ _ _ (by omega)).mono ?_;rintro e wz ⟨rfl,rfl⟩))
       go_roundw
       case rel => exact ⟨k+1,by omega,by go_num,Lib.hid (HNO.out HM.out),Lib.hid (HK.out _)⟩
       case measure => simp [RowKit.intOf];omega
     ·have HM:Hid (¬ mayCut s.data.toList k):=Lib.hid (fun h => hb (by
       have h1:=h.2.2.2.1;have h2:=h.2.2.2.2;rw [HLEN.out] at h1 h2
       omega))
      go_wp2_with fail
      go_quiet (fail)
      go_wp2_with (go_at_call 59;first | (refine (in_yes _ _ _ _ (by omega) (by omega)).mono ?_;rintro e wz ⟨rfl,rfl⟩) | (refine (in_no _ _ _ _ (by omega)).mono ?_;rintro e wz ⟨rfl,rfl⟩))
      go_roundw
      case rel => exact ⟨k+1,by omega,by go_num,Lib.hid (HNO.out HM.out),Lib.hid (HK.out _)⟩
      case measure => simp [RowKit.intOf];omega
    ·have HM:Hid (¬ mayCut s.data.toList k):=Lib.hid (fun h => hc (by rw [hxg.out,h.1];rfl))
     have hcb:(((s[k]).toNat:Int) == 47)=false:=by simpa using hc
     go_wp2_with fail
     go_quiet (fail)
     go_wp2_with (go_at_call 59;first | (refine (in_yes _ _ _ _ (by omega) (by omega)).mono ?_;rintro e wz ⟨rfl,rfl⟩) | (refine (in_no _ _ _ _ (by omega)).mono ?_;rintro e wz ⟨rfl,rfl⟩))
     go_roundw
     case rel => exact ⟨k+1,by omega,by go_num,Lib.hid (HNO.out HM.out),Lib.hid (HK.out _)⟩
     case measure => simp [RowKit.intOf];omega
   ·have hks:Hid (k=s.size):=Lib.hid (by omega)
    have E:Hid (cutV s.data.toList=.tuple #[.string ⟨#[]⟩,.string ⟨#[]⟩,.bool false]):=Lib.hid (cutV_none (cutR_none HS.out (by
     rw [HLEN.out,← hks.out];exact hr.out)))
    go_wp2
    go_ret3
    rw [E.out];exact ⟨rfl,hK.out⟩
end Go.Proofs.YtnpkcneojilmkaaDoor.Head
end
