/- Texts of this seat, merged: what the proof reaches. -/
import Derived.Test.YtnpkcneojilmkaaGreatDoorMemberGNUX22
import Derived.Test.YtnpkcneojilmkaaGreatDoorMemberGNUX16
import Derived.WalkSpells
import Derived.Lib.IndexBytes
import Derived.Test.YtnpkcneojilmkaaGreatDoorMemberGNUX23
import Derived.Test.YtnpkcneojilmkaaGreatDoorMemberGNUX5
import Derived.Laws.StructEq
import Derived.Lib.SlBytesConst
section
namespace Go.Proofs.YtnpkcneojilmkaaGreatDoor.Head
open Go.ChangeShapes Go.WideShapes Go.ChangeAt Go.RowKit Base Byt Txt Hp Go.Proofs.YtnpkcneojilmkaaGreatDoor.Mp Num
set_option linter.unusedVariables false
set_option maxRecDepth 100000
def cutV (name:List UInt8):Value:=
 match cutR name with
 | some (p,s) => .tuple #[.string (str p),.string (str s),.bool true]
 | none => .tuple #[.string ⟨#[]⟩,.string ⟨#[]⟩,.bool false]
theorem cutV_some {name p s:List UInt8} (h:cutR name=some (p,s)):cutV name=.tuple #[.string (str p),.string (str s),.bool true]:=by rw [cutV,h]
theorem cutV_none {name:List UInt8} (h:cutR name=none):cutV name=.tuple #[.string ⟨#[]⟩,.string ⟨#[]⟩,.bool false]:=by rw [cutV,h]
theorem ext_take (s:ByteArray) (k:Nat):s.extract 0 k=str (s.data.toList.take k):=by
 apply ByteArray.ext;apply Array.toList_inj.1;rw [ByteArray.data_extract,Array.toList_extract];rfl
theorem ext_drop (s:ByteArray) (k:Nat):s.extract k s.size=str (s.data.toList.drop k):=by
 apply ByteArray.ext;apply Array.toList_inj.1;rw [ByteArray.data_extract,Array.toList_extract];show (s.data.toList.drop k).take (s.size - k)=s.data.toList.drop k;rw [List.take_of_length_le];rw [List.length_drop,Array.length_toList];exact Nat.le_refl _
theorem s_at (s:ByteArray) (k:Nat) (h:k < s.size):s.data.toList.getD k 0=s[k]:=by
 rw [List.getD,List.getElem?_eq_getElem (show k < s.data.toList.length by simpa using h)]
 rfl
set_option maxHeartbeats 2000000 in
theorem hcut_any (s:ByteArray) (w:World) (hm:s.size≤140737488351232) :
 Calls Tryz.prog 90 #[.string s] w fun e w' => e=.returned (cutV s.data.toList)∧Kept noneB w w':=by
 have hlen:s.data.toList.length=s.size:=by simp
 have HLEN:=Lib.hid hlen;clear hlen
 by_cases hshort:s.size≤100
 ·have E:Hid (cutV s.data.toList=.tuple #[.string ⟨#[]⟩,.string s,.bool true]):=Lib.hid (by
   rw [cutV_some (cutR_short (by rw [HLEN.out];exact hshort)),str_of];rfl)
  go_enter Tryz.func90,Tryz.ntmps90
  go_wp2
  go_ret3
  rw [E.out];exact ⟨rfl,Kept.refl _ _⟩
 ·have HS:Hid (¬ s.data.toList.length≤100):=Lib.hid (by rw [HLEN.out];exact hshort)
  go_enter Tryz.func90,Tryz.ntmps90
  go_wp2_with fail
  go_loopw [14] (fun i wr => ∃ (k:Nat),k≤s.size∧i=.int .i64 k∧Hid (∀ j,j < k → ¬ mayCut s.data.toList j)∧Hid (Kept noneB w wr)) (fun i _ => s.size - (RowKit.intOf i).toNat)
  case atStart => exact ⟨0,Nat.zero_le _,rfl,Lib.hid (fun j hj => by omega),Lib.hid (Kept.refl _ _)⟩
  case round =>
   obtain ⟨k,hk,rfl,hr,hK⟩:=hrel
   by_cases hlt:k < s.size
   ·have hxg:Hid (((s[k]).toNat:Int)=((s.data.toList.getD k 0).toNat:Int)):=Lib.hid (by rw [s_at s k hlt])
    have e1:(s.extract 0 k).size=k:=by rw [ext_take,str_size,List.length_take,HLEN.out];omega
    have e2:(s.extract (k+1) s.size).size=s.size - (k+1):=by rw [ext_drop,str_size,List.length_drop,HLEN.out]
    have HNO:Hid ((¬ mayCut s.data.toList k) → ∀ j,j < k+1 → ¬ mayCut s.data.toList j):=Lib.hid (fun h j hj => by
     rcases Nat.lt_succ_iff_lt_or_eq.1 hj with h' | rfl
     ·exact hr.out j h'
     ·exact h)
    have E3:=Lib.hid (ext_take s k);have E4:=Lib.hid (ext_drop s (k+1));have hxb:=u8_bd (s[k]);obtain ⟨hx0,hx1⟩:=hxb;have HK:=Lib.hid (fun nq => hK.out.drewN nq)
    by_cases hc:((s[k]).toNat:Int)=47
    ·have HC:Hid (s.data.toList.getD k 0=47):=Lib.hid (UInt8.toNat_inj.1 (show (s.data.toList.getD k 0).toNat=47 by have:=hxg.out;omega))
     have hcb:(((s[k]).toNat:Int) == 47)=true:=by simpa using hc
     by_cases hb:1≤s.size - (k+1)∧s.size - (k+1)≤100
     ·obtain ⟨hb1,hb2⟩:=hb
      by_cases ha:1≤k∧k≤155
      ·obtain ⟨ha1,ha2⟩:=ha
       have hm:Hid (mayCut s.data.toList k):=Lib.hid ⟨HC.out,ha1,ha2,by rw [HLEN.out];omega,by rw [HLEN.out];omega⟩
       have E:Hid (cutV s.data.toList=.tuple #[.string (s.extract 0 k),.string (s.extract (k+1) s.size),.bool true]):=Lib.hid (by
        rw [cutV_some (cutR_at HS.out hm.out hr.out),← E3.out,← E4.out])
       go_wp2_with fail
       go_quiet (fail)
       go_wp2_with (go_at_call 98;first | (refine (in_yes _ _ _ _ (by omega) (by omega)).mono ?_;rintro e wz ⟨rfl,rfl⟩) | (refine (in_no _ _ _ _ (by omega)).mono ?_;rintro e wz ⟨rfl,rfl⟩))
       go_ret3
       rw [E.out];exact ⟨rfl,HK.out _⟩
      ·have HM:Hid (¬ mayCut s.data.toList k):=Lib.hid (fun h => ha ⟨h.2.1,h.2.2.1⟩)
       go_wp2_with fail
       go_quiet (fail)
       go_wp2_with (go_at_call 98;first | (refine (in_yes _ _ _ _ (by omega) (by omega)).mono ?_;rintro e wz ⟨rfl,rfl⟩) | (refine (in_no _ _ _ _ (by omega)).mono ?_;rintro e wz ⟨rfl,rfl⟩))
       go_roundw
       case rel => exact ⟨k+1,by omega,by go_num,Lib.hid (HNO.out HM.out),Lib.hid (HK.out _)⟩
       case measure => simp [RowKit.intOf];omega
     ·have HM:Hid (¬ mayCut s.data.toList k):=Lib.hid (fun h => hb (by
       have h1:=h.2.2.2.1;have h2:=h.2.2.2.2;rw [HLEN.out] at h1 h2
       omega))
      go_wp2_with fail
      go_quiet (fail)
      go_wp2_with (go_at_call 98;first | (refine (in_yes _ _ _ _ (by omega) (by omega)).mono ?_;rintro e wz ⟨rfl,rfl⟩) | (refine (in_no _ _ _ _ (by omega)).mono ?_;rintro e wz ⟨rfl,rfl⟩))
      go_roundw
      case rel => exact ⟨k+1,by omega,by go_num,Lib.hid (HNO.out HM.out),Lib.hid (HK.out _)⟩
      case measure => simp [RowKit.intOf];omega
    ·have HM:Hid (¬ mayCut s.data.toList k):=Lib.hid (fun h => hc (by rw [hxg.out,h.1];rfl))
     have hcb:(((s[k]).toNat:Int) == 47)=false:=by simpa using hc
     go_wp2_with fail
     go_quiet (fail)
     go_wp2_with (go_at_call 98;first | (refine (in_yes _ _ _ _ (by omega) (by omega)).mono ?_;rintro e wz ⟨rfl,rfl⟩) | (refine (in_no _ _ _ _ (by omega)).mono ?_;rintro e wz ⟨rfl,rfl⟩))
     go_roundw
     case rel => exact ⟨k+1,by omega,by go_num,Lib.hid (HNO.out HM.out),Lib.hid (HK.out _)⟩
     case measure => simp [RowKit.intOf];omega
   ·have hks:Hid (k=s.size):=Lib.hid (by omega)
    have E:Hid (cutV s.data.toList=.tuple #[.string ⟨#[]⟩,.string ⟨#[]⟩,.bool false]):=Lib.hid (cutV_none (cutR_none HS.out (by
     rw [HLEN.out,← hks.out];exact hr.out)))
    go_wp2
    go_ret3
    rw [E.out];exact ⟨rfl,hK.out⟩
set_option maxHeartbeats 2000000 in
theorem rcut_any (s:ByteArray) (w:World) (hm:s.size≤140737488351232) :
 Calls Tryz.prog 28 #[.string s] w fun e w' => e=.returned (cutV s.data.toList)∧Kept noneB w w':=by
 have hlen:s.data.toList.length=s.size:=by simp
 have HLEN:=Lib.hid hlen;clear hlen
 by_cases hshort:s.size≤100
 ·have E:Hid (cutV s.data.toList=.tuple #[.string ⟨#[]⟩,.string s,.bool true]):=Lib.hid (by
   rw [cutV_some (cutR_short (by rw [HLEN.out];exact hshort)),str_of];rfl)
  go_enter Tryz.func28,Tryz.ntmps28
  go_wp2
  go_ret3
  rw [E.out];exact ⟨rfl,Kept.refl _ _⟩
 ·have HS:Hid (¬ s.data.toList.length≤100):=Lib.hid (by rw [HLEN.out];exact hshort)
  go_enter Tryz.func28,Tryz.ntmps28
  go_wp2_with fail
  go_loopw [5] (fun i wr => ∃ (k:Nat),k≤s.size∧i=.int .i64 k∧Hid (∀ j,j < k → ¬ mayCut s.data.toList j)∧Hid (Kept noneB w wr)) (fun i _ => s.size - (RowKit.intOf i).toNat)
  case atStart => exact ⟨0,Nat.zero_le _,rfl,Lib.hid (fun j hj => by omega),Lib.hid (Kept.refl _ _)⟩
  case round =>
   obtain ⟨k,hk,rfl,hr,hK⟩:=hrel
   by_cases hlt:k < s.size
   ·have hxg:Hid (((s[k]).toNat:Int)=((s.data.toList.getD k 0).toNat:Int)):=Lib.hid (by rw [s_at s k hlt])
    have HNO:Hid ((¬ mayCut s.data.toList k) → ∀ j,j < k+1 → ¬ mayCut s.data.toList j):=Lib.hid (fun h j hj => by
     rcases Nat.lt_succ_iff_lt_or_eq.1 hj with h' | rfl
     ·exact hr.out j h'
     ·exact h)
    have E3:=Lib.hid (ext_take s k);have E4:=Lib.hid (ext_drop s (k+1));have hxb:=u8_bd (s[k]);obtain ⟨hx0,hx1⟩:=hxb;have HK:=Lib.hid (fun nq => hK.out.drewN nq)
    by_cases hc:((s[k]).toNat:Int)=47
    ·have HC:Hid (s.data.toList.getD k 0=47):=Lib.hid (UInt8.toNat_inj.1 (show (s.data.toList.getD k 0).toNat=47 by have:=hxg.out;omega))
     have hcb:(((s[k]).toNat:Int) == 47)=true:=by simpa using hc
     by_cases ha0:0 < k
     ·by_cases ha2:k≤155
      ·by_cases hb2:s.size≤k+101
       ·by_cases hb1:k+2≤s.size
        ·have hm:Hid (mayCut s.data.toList k):=Lib.hid ⟨HC.out,ha0,ha2,by rw [HLEN.out];omega,by rw [HLEN.out];omega⟩
         have E:Hid (cutV s.data.toList=.tuple #[.string (s.extract 0 k),.string (s.extract (k+1) s.size),.bool true]):=Lib.hid (by
          rw [cutV_some (cutR_at HS.out hm.out hr.out),← E3.out,← E4.out])
         go_wp2_with fail
         go_quiet (fail)
         go_wp2
         go_ret3
         rw [E.out];exact ⟨rfl,HK.out _⟩
        ·have HM:Hid (¬ mayCut s.data.toList k):=Lib.hid (fun h => hb1 (by have h1:=h.2.2.2.1;rw [HLEN.out] at h1;exact h1))
         go_wp2
         go_roundw
         case rel => exact ⟨k+1,by omega,by go_num,Lib.hid (HNO.out HM.out),hK⟩
         case measure => simp [RowKit.intOf];omega
       ·have HM:Hid (¬ mayCut s.data.toList k):=Lib.hid (fun h => hb2 (by have h1:=h.2.2.2.2;rw [HLEN.out] at h1;exact h1))
        go_wp2
        go_roundw
        case rel => exact ⟨k+1,by omega,by go_num,Lib.hid (HNO.out HM.out),hK⟩
        case measure => simp [RowKit.intOf];omega
      ·have HM:Hid (¬ mayCut s.data.toList k):=Lib.hid (fun h => ha2 h.2.2.1)
       go_wp2
       go_roundw
       case rel => exact ⟨k+1,by omega,by go_num,Lib.hid (HNO.out HM.out),hK⟩
       case measure => simp [RowKit.intOf];omega
     ·have HM:Hid (¬ mayCut s.data.toList k):=Lib.hid (fun h => ha0 h.2.1)
      go_wp2
      go_roundw
      case rel => exact ⟨k+1,by omega,by go_num,Lib.hid (HNO.out HM.out),hK⟩
      case measure => simp [RowKit.intOf];omega
    ·have HM:Hid (¬ mayCut s.data.toList k):=Lib.hid (fun h => hc (by rw [hxg.out,h.1];rfl))
     have hcb:(((s[k]).toNat:Int) == 47)=false:=by simpa using hc
     go_wp2
     go_roundw
     case rel => exact ⟨k+1,by omega,by go_num,Lib.hid (HNO.out HM.out),hK⟩
     case measure => simp [RowKit.intOf];omega
   ·have hks:Hid (k=s.size):=Lib.hid (by omega)
    have E:Hid (cutV s.data.toList=.tuple #[.string ⟨#[]⟩,.string ⟨#[]⟩,.bool false]):=Lib.hid (cutV_none (cutR_none HS.out (by
     rw [HLEN.out,← hks.out];exact hr.out)))
    go_wp2
    go_ret3
    rw [E.out];exact ⟨rfl,hK.out⟩
end Go.Proofs.YtnpkcneojilmkaaGreatDoor.Head
end
section
namespace Go.Proofs.YtnpkcneojilmkaaGreatDoor.Head
open Go.ChangeShapes Go.WideShapes Go.ChangeAt Go.RowKit Base Byt Txt Hp Go.Proofs.YtnpkcneojilmkaaGreatDoor.Mp Fp Go.Proofs.YtnpkcneojilmkaaGreatDoor.Field Go.Lib
set_option linter.unusedVariables false
set_option maxRecDepth 100000
theorem putR_cut {h:HeadV} (hc:cutR h.name=none):putR h=none:=by unfold putR;rw [hc]
theorem putR_bad {h:HeadV} (hb:badH h=true):putR h=none:=by
 unfold putR
 cases cutR h.name with
 | none => rfl
 | some ps => simp only;rw [if_pos (by rw [hb];rfl)]
theorem putR_num {h:HeadV} (hn:numsOk h=false):putR h=none:=by
 unfold putR
 cases cutR h.name with
 | none => rfl
 | some ps => simp only;rw [if_pos (by rw [hn];simp)]
theorem putR_ok {h:HeadV} {p s:List UInt8} (hc:cutR h.name=some (p,s)) (hb:badH h=false) (hn:numsOk h=true):putR h=some (blockA (own2 h p s)):=by
 unfold putR;rw [hc];simp only;rw [if_neg (by rw [hb,hn];simp)]
def PutHPost (w:World) (r:Option (List UInt8)) (e:Ending) (w':World):Prop:=
 Kept noneB w w'∧((∃ bs g,r=some bs∧e=.returned (.tuple #[.slice (some ⟨g,0,none⟩) 512 512,.bool true])∧RowB w' g bs∧w.heap.size≤g) ∨ (r=none∧e=.returned (.tuple #[.slice none 0 0,.bool false])))
theorem own1_field (h:HeadV) (p s:List UInt8):own1 h p s 0=padTo 100 s∧own1 h p s 6=List.replicate 8 0∧own1 h p s 7=[h.kind]∧own1 h p s 8=padTo 100 h.link∧own1 h p s 9=ustarB∧own1 h p s 10=padTo 155 p ∧ ∀ i,1≤i → i≤5 → own1 h p s i=numB h i:=by
 refine ⟨rfl,rfl,rfl,rfl,rfl,rfl,fun i h1 h2 => ?_⟩
 unfold own1;rw [if_neg (by omega),if_neg (by omega),if_neg (by omega),if_neg (by omega),if_neg (by omega),if_neg (by omega),if_pos h2]
end Go.Proofs.YtnpkcneojilmkaaGreatDoor.Head
end
section
namespace Go.Proofs.YtnpkcneojilmkaaGreatDoor.Head
open Go.ChangeShapes Go.WideShapes Go.ChangeAt Go.RowKit Base Byt Txt Hp Go.Proofs.YtnpkcneojilmkaaGreatDoor.Mp Fp Go.Proofs.YtnpkcneojilmkaaGreatDoor.Field Go.Lib
set_option linter.unusedVariables false
set_option maxRecDepth 100000
theorem zero_any (p:Option Addr) (n c:Nat) (bs:List UInt8) (w:World) (hm:n≤140737488351232) (h:BAt w p n bs) :
 Calls Tryz.prog 52 #[.slice p n c] w fun e w' => e=.returned (.bool (((plainTo bs n:Nat):Int) == 0))∧w=w':=by
 have H:=Lib.hid h;clear h
 go_enter Tryz.func52,Tryz.ntmps52
 go_wp2_with fail
 refine (total_any p n c bs w hm H.out).mono ?_
 rintro e w1 ⟨rfl,rfl⟩
 go_wp2
 go_ret
 exact ⟨rfl,rfl⟩
end Go.Proofs.YtnpkcneojilmkaaGreatDoor.Head
end
