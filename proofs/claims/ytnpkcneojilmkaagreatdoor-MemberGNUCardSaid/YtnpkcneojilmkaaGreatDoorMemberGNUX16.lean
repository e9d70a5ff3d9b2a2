/- Texts of this seat, merged: what the proof reaches. -/
import Derived.Test.YtnpkcneojilmkaaGreatDoorMemberGNUX11
import Derived.OpenShut
import Derived.ShutString
import Derived.Test.YtnpkcneojilmkaaGreatDoorMemberGNUX1
import Derived.Test.YtnpkcneojilmkaaGreatDoorMemberGNUX5
import Derived.Deep.Draws
import Derived.BigCall
import Derived.Shelf.RegionOpenPlain
import Derived.Test.YtnpkcneojilmkaaGreatDoorMemberGNUX2
import Derived.Test.YtnpkcneojilmkaaGreatDoorMemberGNUX9
section
namespace Go.Proofs.YtnpkcneojilmkaaGreatDoor.Num
open Go.ChangeShapes Go.WideShapes Go.ChangeAt Go.RowKit Base
set_option linter.unusedVariables false
def inB (n l m:Int):Bool:=decide (l≤n∧n≤m)
theorem inB_true {n l m:Int} (h1:l≤n) (h2:n≤m):inB n l m=true:=by simp [inB,h1,h2]
theorem inB_false {n l m:Int} (h:¬ (l≤n∧n≤m)):inB n l m=false:=by simp only [inB,decide_eq_false_iff_not];exact h
theorem in_yes (n l m:Int) (w:World) (h1:l≤n) (h2:n≤m) :
 Calls Tryz.prog 98 #[.int .i64 n,.int .i64 l,.int .i64 m] w fun e w' => e=.returned (.bool true)∧w=w':=by
 go_enter Tryz.func98,Tryz.ntmps98
 go_wp2
 go_ret
 exact ⟨rfl,rfl⟩
theorem in_no (n l m:Int) (w:World) (h:¬ (l≤n∧n≤m)) :
 Calls Tryz.prog 98 #[.int .i64 n,.int .i64 l,.int .i64 m] w fun e w' => e=.returned (.bool false)∧w=w':=by
 by_cases h1:l≤n
 ·have h2:¬ n≤m:=fun h2 => h ⟨h1,h2⟩
  clear h
  go_enter Tryz.func98,Tryz.ntmps98
  go_wp2
  go_ret
  exact ⟨rfl,rfl⟩
 ·clear h
  go_enter Tryz.func98,Tryz.ntmps98
  go_wp2
  go_ret
  exact ⟨rfl,rfl⟩
theorem in_any (n l m:Int) (w:World) :
 Calls Tryz.prog 98 #[.int .i64 n,.int .i64 l,.int .i64 m] w fun e w' => e=.returned (.bool (inB n l m))∧w=w':=by
 by_cases h:l≤n∧n≤m
 ·rw [inB_true h.1 h.2];exact in_yes n l m w h.1 h.2
 ·rw [inB_false h];exact in_no n l m w h
def sumF:List Int → Int → Option Int
 | [],s => some s
 | x :: l,s => if 0≤x∧x≤4611686018427387904 - s then sumF l (s+x) else none
def valO:Option Int → Int
 | some s => s
 | none => 0
def okO:Option Int → Bool
 | some _ => true
 | none => false
theorem drop_cons (zs:List Int) (k:Nat) (h:k < zs.length):zs.drop k=zs.getD k 0 :: zs.drop (k+1):=by
 rw [List.drop_eq_getElem_cons h];simp [List.getD,h]
theorem sumF_step (zs:List Int) (k:Nat) (s:Int) (h:k < zs.length) (h0:0≤zs.getD k 0) (h1:zs.getD k 0≤4611686018427387904 - s) :
 sumF (zs.drop k) s=sumF (zs.drop (k+1)) (s+zs.getD k 0):=by
 rw [drop_cons zs k h,sumF,if_pos ⟨h0,h1⟩]
theorem sumF_stop (zs:List Int) (k:Nat) (s:Int) (h:k < zs.length) (h0:¬ (0≤zs.getD k 0∧zs.getD k 0≤4611686018427387904 - s)) :
 sumF (zs.drop k) s=none:=by
 rw [drop_cons zs k h,sumF,if_neg h0]
set_option maxHeartbeats 400000 in
theorem add_some (b off len cap:Nat) (zs:List Int) (w:World) (hl:zs.length=len) (hm:len≤maxLen)
 (hc:∀ i,i < len → w.cell? ⟨b,off+i,none⟩=some (.int .i64 (zs.getD i 0))) :
 Calls Tryz.prog 123 #[.slice (some ⟨b,off,none⟩) len cap] w fun e w' => e=.returned (.tuple #[.int .i64 (valO (sumF zs 0)),.bool (okO (sumF zs 0))])∧w=w':=by
 unfold maxLen at hm;have HL:Hid (zs.length=len):=hl;have HC:Hid (∀ i,i < len → w.cell? ⟨b,off+i,none⟩=some (.int .i64 (zs.getD i 0))):=hc;clear hl hc
 go_enter Tryz.func123,Tryz.ntmps123
 go_wp2
 go_loop [4,9] (fun t i => ∃ (k:Nat) (s:Int),k≤len∧0≤s∧s≤4611686018427387904∧i=.int .i64 k∧t=.int .i64 s∧Hid (sumF (zs.drop k) s=sumF zs 0)) (fun _ i => len - (RowKit.intOf i).toNat)
 case atStart => exact ⟨0,0,Nat.zero_le _,by omega,by decide,rfl,rfl,rfl⟩
 case round =>
  obtain ⟨k,s,hk,hs0,hs1,rfl,rfl,hr⟩:=hrel
  by_cases hlt:k < len
  ·have hcell:=HC.out k hlt
   obtain ⟨z,hz⟩:∃ z,z=zs.getD k 0:=⟨_,rfl⟩;rw [← hz] at hcell;have HZ:Hid (z=zs.getD k 0):=hz;clear hz
   by_cases hin:0≤z∧z≤4611686018427387904 - s
   ·obtain ⟨h0,h1⟩:=hin
    go_wp2_with (go_at_call 98;refine (in_yes _ _ _ _ (by omega) (by omega)).mono ?_;rintro e w' ⟨rfl,rfl⟩)
    go_round
    case rel => exact ⟨k+1,s+z,by omega,by omega,by omega,by go_num,rfl,Lib.hid (by rw [← hr.out,sumF_step zs k s (by rw [HL.out];exact hlt) (by rw [← HZ.out];exact h0) (by rw [← HZ.out];exact h1),← HZ.out])⟩
    case measure => simp [RowKit.intOf];omega
   ·go_wp2_with (go_at_call 98;refine (in_no _ _ _ _ hin).mono ?_;rintro e w' ⟨rfl,rfl⟩)
    go_ret2
    have E:sumF zs 0=none:=by rw [← hr.out];exact sumF_stop zs k s (by rw [HL.out];exact hlt) (by rw [← HZ.out];exact hin)
    rw [E];exact ⟨rfl,rfl⟩
  ·have hkl:Hid (k=len):=Lib.hid (by omega)
   go_wp2
   go_ret2
   have E:sumF zs 0=some s:=by rw [← hr.out,hkl.out,← HL.out,List.drop_length];rfl
   rw [E];exact ⟨rfl,rfl⟩
theorem may_yes (n:Int) (w:World) (h1:0≤n) (h2:n≤4611686018427387904) :
 Calls Tryz.prog 47 #[.int .i64 n] w fun e w' => e=.returned (.bool true)∧w=w':=by
 go_enter Tryz.func47,Tryz.ntmps47
 go_wp2
 go_ret
 exact ⟨rfl,rfl⟩
theorem may_no (n:Int) (w:World) (h:¬ (0≤n∧n≤4611686018427387904)) :
 Calls Tryz.prog 47 #[.int .i64 n] w fun e w' => e=.returned (.bool false)∧w=w':=by
 by_cases h1:0≤n
 ·have h2:¬ n≤4611686018427387904:=fun h2 => h ⟨h1,h2⟩
  clear h
  go_enter Tryz.func47,Tryz.ntmps47
  go_wp2
  go_ret
  exact ⟨rfl,rfl⟩
 ·clear h
  go_enter Tryz.func47,Tryz.ntmps47
  go_wp2
  go_ret
  exact ⟨rfl,rfl⟩
theorem sumF_two (a b:Int):sumF [a,b] 0=if 0≤a∧a≤4611686018427387904∧0≤b∧a+b≤4611686018427387904 then some (a+b) else none:=by
 simp only [sumF]
 by_cases h:0≤a∧a≤4611686018427387904 - 0
 ·rw [if_pos h]
  by_cases h2:0≤b∧b≤4611686018427387904 - (0+a)
  ·rw [if_pos h2,if_pos (by omega),Int.zero_add]
  ·rw [if_neg h2,if_neg (by omega)]
 ·rw [if_neg h,if_neg (by omega)]
theorem add_two (a b:Int) (w:World) :
 Calls Tryz.prog 123 #[.slice (some ⟨w.heap.size,0,none⟩) 2 2] (w.alloc (.cells #[.int .i64 a,.int .i64 b] 3)) fun e w' => e=.returned (.tuple #[.int .i64 (valO (sumF [a,b] 0)),.bool (okO (sumF [a,b] 0))])∧w.alloc (.cells #[.int .i64 a,.int .i64 b] 3)=w':=
 add_some _ _ 2 2 [a,b] _ rfl (by decide) (fun i hi => by
  match i,hi with
  | 0,_ => simp
  | 1,_ => simp)
def padF (n:Int):Int:=if 0≤n∧n≤4611686018427387904 then (if n % 512=0 then n else n+(512 - n % 512)) else 0
set_option maxHeartbeats 400000 in
theorem pad_any (n:Int) (w:World) :
 Calls Tryz.prog 93 #[.int .i64 n] w fun e w' => e=.returned (.tuple #[.int .i64 (padF n),.bool (inB n 0 4611686018427387904)])∧Below w.heap.size w w':=by
 by_cases h:0≤n∧n≤4611686018427387904
 ·obtain ⟨h0,h1⟩:=h
  by_cases h2:n % 512=0
  ·have HP:Hid (padF n=n):=Lib.hid (by rw [padF,if_pos ⟨h0,h1⟩,if_pos h2])
   have hb:(n % 512 == 0)=true:=by simpa using h2
   have H2:=Lib.hid h2;clear h2
   go_enter Tryz.func93,Tryz.ntmps93
   go_wp2_with (go_at_call 98;refine (in_yes _ _ _ _ (by omega) (by omega)).mono ?_;rintro e w' ⟨rfl,rfl⟩)
   go_ret2
   rw [HP.out,inB_true h0 h1];exact ⟨rfl,Below.refl _ _⟩
  ·have HP:Hid (padF n=n+(512 - n % 512)):=Lib.hid (by rw [padF,if_pos ⟨h0,h1⟩,if_neg h2])
   have hb:(n % 512 == 0)=false:=by simpa using h2
   have H2:=Lib.hid h2;clear h2
   go_enter Tryz.func93,Tryz.ntmps93
   go_wp2_with (go_at_call 98;refine (in_yes _ _ _ _ (by omega) (by omega)).mono ?_;rintro e w' ⟨rfl,rfl⟩)
   refine (add_two n (512 - n % 512) _).mono ?_
   rintro e w' ⟨rfl,rfl⟩;rw [sumF_two,if_pos (by have:=H2.out;omega)]
   go_wp2
   go_ret2
   rw [HP.out,inB_true h0 h1];exact ⟨rfl,(Below.refl _ _).alloc (Nat.le_refl _) _⟩
 ·have HP:Hid (padF n=0):=Lib.hid (by rw [padF,if_neg h])
  go_enter Tryz.func93,Tryz.ntmps93
  go_wp2_with (go_at_call 98;refine (in_no _ _ _ _ h).mono ?_;rintro e w' ⟨rfl,rfl⟩)
  go_ret2
  rw [HP.out,inB_false h];exact ⟨rfl,Below.refl _ _⟩
def mulF (a b:Int):Option Int:=if 0≤a∧a≤4611686018427387904∧0≤b∧b≤4611686018427387904∧a * b≤4611686018427387904 then some (a * b) else none
theorem div_lt (a b:Int) (h:0 < a):4611686018427387904 / a < b ↔ 4611686018427387904 < a * b:=by
 rw [Int.ediv_lt_iff_lt_mul h,Int.mul_comm]
set_option maxHeartbeats 400000 in
theorem mul_any (a b:Int) (w:World) :
 Calls Tryz.prog 132 #[.int .i64 a,.int .i64 b] w fun e w' => e=.returned (.tuple #[.int .i64 (valO (mulF a b)),.bool (okO (mulF a b))])∧w=w':=by
 by_cases h:0≤a∧a≤4611686018427387904
 ·obtain ⟨h0,h1⟩:=h
  by_cases h2:0≤b∧b≤4611686018427387904
  ·obtain ⟨h2,h3⟩:=h2
   by_cases h4:0 < a
   ·by_cases h5:4611686018427387904 / a < b
    ·have E:Hid (mulF a b=none):=Lib.hid (by rw [mulF,if_neg];intro hh;have:=(div_lt a b h4).1 h5;omega)
     go_enter Tryz.func132,Tryz.ntmps132
     go_wp2_with (go_at_call 98;refine (in_yes _ _ _ _ (by omega) (by omega)).mono ?_;rintro e w' ⟨rfl,rfl⟩)
     go_ret2
     rw [E.out];exact ⟨rfl,rfl⟩
    ·have h6:a * b≤4611686018427387904:=by have:=mt (div_lt a b h4).2 h5;omega
     have h7:0≤a * b:=Int.mul_nonneg h0 h2;have E:Hid (mulF a b=some (a * b)):=Lib.hid (by rw [mulF,if_pos ⟨h0,h1,h2,h3,h6⟩])
     go_enter Tryz.func132,Tryz.ntmps132
     go_wp2_with (go_at_call 98;refine (in_yes _ _ _ _ (by omega) (by omega)).mono ?_;rintro e w' ⟨rfl,rfl⟩)
     go_ret2
     rw [E.out];exact ⟨rfl,rfl⟩
   ·obtain rfl:a=0:=by omega
    have E:Hid (mulF 0 b=some 0):=Lib.hid (by rw [mulF,if_pos ⟨h0,h1,h2,h3,by omega⟩,Int.zero_mul])
    go_enter Tryz.func132,Tryz.ntmps132
    go_wp2_with (go_at_call 98;refine (in_yes _ _ _ _ (by omega) (by omega)).mono ?_;rintro e w' ⟨rfl,rfl⟩)
    go_ret2
    rw [E.out];exact ⟨rfl,rfl⟩
  ·have E:Hid (mulF a b=none):=Lib.hid (by rw [mulF,if_neg (by omega)])
   go_enter Tryz.func132,Tryz.ntmps132
   go_wp2_with (go_at_call 98;first | (refine (in_yes _ _ _ _ (by omega) (by omega)).mono ?_;rintro e w' ⟨rfl,rfl⟩) | (refine (in_no _ _ _ _ h2).mono ?_;rintro e w' ⟨rfl,rfl⟩))
   go_ret2
   rw [E.out];exact ⟨rfl,rfl⟩
 ·have E:Hid (mulF a b=none):=Lib.hid (by rw [mulF,if_neg (by omega)])
  go_enter Tryz.func132,Tryz.ntmps132
  go_wp2_with (go_at_call 98;refine (in_no _ _ _ _ h).mono ?_;rintro e w' ⟨rfl,rfl⟩)
  go_ret2
  rw [E.out];exact ⟨rfl,rfl⟩
end Go.Proofs.YtnpkcneojilmkaaGreatDoor.Num
end
section
namespace Go.Proofs.YtnpkcneojilmkaaGreatDoor.Path
open Go.ChangeShapes Go.WideShapes Go.ChangeAt Go.RowKit Go.Shelf Base Byt Txt Go.Lib
set_option linter.unusedVariables false
set_option maxRecDepth 100000
theorem join_any (c p:List UInt8) (w:World) (hm:c.length+p.length≤2000000000000) :
 Calls Tryz.prog 97 #[.string (str c),.string (str p)] w fun e w' => e=.returned (.string (str (joinP c p)))∧w=w':=by
 have hs:(str c).size+1+(str p).size≤9223372036854775807:=by rw [str_size,str_size];omega
 have hs1:(str c).size+1≤9223372036854775807:=by omega
 clear hm
 by_cases h1:p=[]
 ·have e:str (joinP c p)=str c:=by unfold joinP;rw [if_pos (.inl h1)]
  have b1:(str p).toList.isEmpty=true:=by rw [str_empty];simpa using h1
  rw [e];clear e h1
  go_enter Tryz.func97,Tryz.ntmps97
  go_wp2
  go_ret
  exact ⟨rfl,rfl⟩
 ·have b1:(str p).toList.isEmpty=false:=by rw [str_empty];simpa using h1
  by_cases h2:p=[46]
  ·have e:str (joinP c p)=str c:=by unfold joinP;rw [if_pos (.inr h2)]
   have b2:((str p).toList == [46])=true:=by rw [str_is];simpa using h2
   rw [e];clear e h1 h2
   go_enter Tryz.func97,Tryz.ntmps97
   go_wp2
   go_ret
   exact ⟨rfl,rfl⟩
  ·have b2:((str p).toList == [46])=false:=by rw [str_is];simpa using h2
   by_cases h3:c=[]
   ·have e:str (joinP c p)=str p:=by unfold joinP;rw [if_neg (by simp [h1,h2]),if_pos h3]
    have b3:(str c).toList.isEmpty=true:=by rw [str_empty];simpa using h3
    rw [e];clear e h1 h2 h3
    go_enter Tryz.func97,Tryz.ntmps97
    go_wp2
    go_ret
    exact ⟨rfl,rfl⟩
   ·have e:str c++⟨#[47]⟩++str p=str (joinP c p):=by
     unfold joinP;rw [if_neg (by simp [h1,h2]),if_neg h3,show (⟨#[47]⟩:ByteArray)=str [47] from rfl,str_app,str_app]
     simp
    have b3:(str c).toList.isEmpty=false:=by rw [str_empty];simpa using h3
    rw [← e];clear e h1 h2 h3
    go_enter Tryz.func97,Tryz.ntmps97
    go_wp2
    go_ret
    exact ⟨rfl,rfl⟩
def cutL (l:List UInt8):List UInt8 × List UInt8 × Bool:=
 if 0≤Lib.indexByte l 47 then (l.take (Lib.indexByte l 47).toNat,l.drop ((Lib.indexByte l 47).toNat+1),true) else (l,[],false)
theorem slCut_any (l:List UInt8) (w:World) (hm:l.length≤1000000000000) :
 Calls Tryz.prog 141 #[.string (str l),.string ⟨#[47]⟩] w fun e w' => e=.returned (.tuple #[.string (str (cutL l).1),.string (str (cutL l).2.1),.bool (cutL l).2.2]) ∧ ∃ n,w'=w.drewN n:=by
 have hidx:=Any.stringslite_Index_one Tryz.laysIndex (str l) 47 w;rw [str_data] at hidx;have hs:(str l).size=l.length:=str_size l;unfold cutL
 by_cases h:0≤Lib.indexByte l 47
 ·obtain ⟨k,hk⟩:∃ k:Nat,Lib.indexByte l 47=k:=⟨(Lib.indexByte l 47).toNat,by omega⟩
  have hlt:=(List.getElem?_eq_some_iff.1 (Lib.indexByte_some hk).1).1;rw [if_pos h,hk,Int.toNat_natCast];rw [hk] at hidx;clear h hk;simp only;have e1:(str l).extract 0 k=str (l.take k):=str_take l k;have e2:(str l).extract (k+1) (str l).size=str (l.drop (k+1)):=str_drop l (k+1) _ hs;rw [← e1,← e2];have c1:(0:Int)≤(k:Int):=by omega
  have c2:(k:Int)≤((str l).size:Int):=by omega
  have c3:(0:Int)≤(k:Int)+1:=by omega
  have c4:(k:Int)+1≤((str l).size:Int):=by omega
  have c5:((str l).size:Int)≤1000000000000:=by omega
  clear e1 e2;have mixed:Tryz.prog.follows .mixedOrders=true:=by kernel_rfl
  go_enter Tryz.func141,Tryz.ntmps141
  go_wp2_with (go_at_call 156;refine hidx.mono ?_;rintro e w' ⟨rfl,rfl⟩)
  go_region_o
  go_wp2
  go_ret3
  exact ⟨rfl,1,rfl⟩
 ·rw [if_neg h]
  have hn:Lib.indexByte l 47 = -1:=by have:=Lib.indexByte_ge l 47;omega
  rw [hn] at hidx;clear h hn
  go_enter Tryz.func141,Tryz.ntmps141
  go_wp2_with (go_at_call 156;refine hidx.mono ?_;rintro e w' ⟨rfl,rfl⟩)
  go_ret3
  exact ⟨rfl,0,rfl⟩
theorem cutSlash_any (l:List UInt8) (w:World) (hm:l.length≤1000000000000) :
 Calls Tryz.prog 108 #[.string (str l),.string ⟨#[47]⟩] w fun e w' => e=.returned (.tuple #[.string (str (cutL l).1),.string (str (cutL l).2.1),.bool (cutL l).2.2]) ∧ ∃ n,w'=w.drewN n:=by
 have hc:=slCut_any l w hm
 go_enter Tryz.func108,Tryz.ntmps108
 go_wp2_with (go_at_call 141;refine hc.mono ?_;rintro e w' ⟨rfl,n,rfl⟩)
 go_ret3
 exact ⟨rfl,n,rfl⟩
end Go.Proofs.YtnpkcneojilmkaaGreatDoor.Path
end
section
namespace Go.Proofs.YtnpkcneojilmkaaGreatDoor.Field
open Go.ChangeShapes Go.WideShapes Go.ChangeAt Go.RowKit Base Num Fp Byt
set_option linter.unusedVariables false
theorem v_some (x:Int):valO (some x)=x:=rfl
theorem o_some (x:Int):okO (some x)=true:=rfl
theorem v_none:valO none=0:=rfl
theorem o_none:okO none=false:=rfl
set_option maxHeartbeats 800000 in
theorem number_any (base zero:Int) (p:Option Addr) (n c:Nat) (bs:List UInt8) (w:World) (hb0:2≤base) (hb1:base≤256) (hz0:0≤zero) (hz1:zero+base≤256)
 (hn:bs.length=n) (hm:n≤maxLen) (h:BAt w p n bs) :
 Calls Tryz.prog 103 #[.int .i64 base,.int .u8 zero,.slice p n c] w fun e w' => e=.returned (.tuple #[.int .i64 (valI (digF base zero bs 0)),.bool (okI (digF base zero bs 0))])∧Below w.heap.size w w':=by
 unfold maxLen at hm;have HN:=Lib.hid hn;have H:=Lib.hid h;clear hn h
 go_enter Tryz.func103,Tryz.ntmps103
 go_wp2
 go_loopw [8,16] (fun s i wr => ∃ (k:Nat) (s0:Int),k≤n∧0≤s0∧s0≤4611686018427387904∧i=.int .i64 k∧s=.int .i64 s0∧Hid (digF base zero (bs.drop k) s0=digF base zero bs 0)∧Below w.heap.size w wr) (fun _ i _ => n - (RowKit.intOf i).toNat)
 case atStart => exact ⟨0,0,Nat.zero_le _,by omega,by decide,rfl,rfl,Lib.hid rfl,Below.refl _ _⟩
 case round =>
  obtain ⟨k,s0,hk,hs0,hs1,rfl,rfl,hr,hbel⟩:=hrel
  by_cases hlt:k < n
  ·obtain ⟨b,o,rfl,hbw,hcell⟩:=H.out.cell hlt
   have hc:=hcell k hlt;clear hcell;obtain ⟨x,hx⟩:∃ x:Int,x=((bs.getD k 0).toNat:Int):=⟨_,rfl⟩;rw [← hx] at hc;have hxb:=u8_bd (bs.getD k 0);rw [← hx] at hxb;have HX:=Lib.hid hx;clear hx;obtain ⟨hx0,hx1⟩:=hxb;rw [← hbel.cell hbw] at hc
   by_cases hd:base≤(x - zero) % 256
   ·have E:Hid (digF base zero bs 0=none):=Lib.hid (by
     rw [← hr.out];exact digF_stop base zero bs k s0 (by rw [HN.out];exact hlt) (by rw [← HX.out];omega))
    go_wp2
    go_ret2
    rw [E.out];exact ⟨rfl,hbel⟩
   ·have hzx:zero≤x∧x < zero+base:=by omega
    have hdx:Hid ((x - zero) % 256=x - zero):=Lib.hid (by omega)
    have hd0:0≤x - zero∧x - zero≤255:=by omega
    obtain ⟨hd0,hd1⟩:=hd0;have hp0:0≤s0 * base:=Int.mul_nonneg hs0 (by omega)
    by_cases hp:s0 * base≤4611686018427387904
    ·have EM:Hid (mulF s0 base=some (s0 * base)):=Lib.hid (by rw [mulF,if_pos ⟨hs0,hs1,by omega,by omega,hp⟩])
     go_wp2_with fail
     refine (mul_any _ _ _).mono ?_
     rintro e w1 ⟨rfl,rfl⟩;rw [EM.out,v_some,o_some]
     by_cases hq:s0 * base+(x - zero)≤4611686018427387904
     ·have ES:Hid (sumF [s0 * base,x - zero] 0=some (s0 * base+(x - zero))):=Lib.hid (by rw [sumF_two,if_pos ⟨hp0,hp,hd0,hq⟩])
      go_wp2_with fail
      refine (add_two _ _ _).mono ?_
      rintro e w2 ⟨rfl,rfl⟩;rw [ES.out,v_some,o_some]
      go_wp2
      go_roundw
      case rel => exact ⟨k+1,s0 * base+(x - zero),by omega,by omega,hq,by go_num,rfl,Lib.hid (by rw [← hr.out,digF_step base zero bs k s0 (by rw [HN.out];exact hlt) (by rw [← HX.out];have:=hdx.out;omega),← HX.out]),hbel.alloc hbel.size _⟩
      case measure => simp [RowKit.intOf];omega
     ·have ES:Hid (sumF [s0 * base,x - zero] 0=none):=Lib.hid (by rw [sumF_two,if_neg (by omega)])
      have E:Hid (digF base zero bs 0=none):=Lib.hid (by
       rw [← hr.out];exact digF_stop base zero bs k s0 (by rw [HN.out];exact hlt) (by rw [← HX.out];have:=hdx.out;omega))
      go_wp2_with fail
      refine (add_two _ _ _).mono ?_
      rintro e w2 ⟨rfl,rfl⟩;rw [ES.out,v_none,o_none]
      go_wp2
      go_ret2
      rw [E.out];exact ⟨rfl,hbel.alloc hbel.size _⟩
    ·have EM:Hid (mulF s0 base=none):=Lib.hid (by rw [mulF,if_neg (by omega)])
     have E:Hid (digF base zero bs 0=none):=Lib.hid (by
      rw [← hr.out];exact digF_stop base zero bs k s0 (by rw [HN.out];exact hlt) (by rw [← HX.out];have:=hdx.out;omega))
     go_wp2_with fail
     refine (mul_any _ _ _).mono ?_
     rintro e w1 ⟨rfl,rfl⟩;rw [EM.out,v_none,o_none]
     go_wp2
     go_ret2
     rw [E.out];exact ⟨rfl,hbel⟩
  ·have hkl:Hid (k=n):=Lib.hid (by omega)
   go_wp2
   go_ret2
   have E:digF base zero bs 0=some s0:=by rw [← hr.out,hkl.out,← HN.out,List.drop_length];rfl
   rw [E];exact ⟨rfl,hbel⟩
end Go.Proofs.YtnpkcneojilmkaaGreatDoor.Field
end
section
namespace Go.Proofs.YtnpkcneojilmkaaGreatDoor.Field
open Go.ChangeShapes Go.WideShapes Go.ChangeAt Go.RowKit Base Num Fp Byt
set_option linter.unusedVariables false
theorem info256:(Tryz.prog.info? (Tryz.lays7_ren.t 27)).map (fun i => (i.zero,i.size))=some (some (.agg (Array.replicate 256 (.bool false))),256):=by kernel_rfl
theorem trimLeft_any (p:Option Addr) (n c:Nat) (bs:List UInt8) (w:World) (hn:bs.length=n) (hc:n≤c) (hm:c≤maxLen) (h:BAt w p n bs) :
 Calls Tryz.prog 101 #[.slice p n c,.string ⟨#[32]⟩] w fun e w' => e=.returned (Lib.leftV p n c (n - (Lib.trimLeftS bs [32]).length))∧Below w.heap.size w w':=
 Any.bytes_TrimLeft_ascii Tryz.lays8 (zero_of_info info256).1 (zero_of_info info256).2 p n c bs ⟨#[32]⟩ w hn hc (by unfold maxLen at hm;omega) h (by decide) (fun j b hb => by
  match j,hb with
  | 0,hb => cases hb;decide
  | j+1,hb => simp at hb)
theorem trimRight_any (p:Option Addr) (n c:Nat) (bs:List UInt8) (w:World) (hn:bs.length=n) (hc:n≤c) (hm:c≤maxLen) (h:BAt w p n bs) :
 Calls Tryz.prog 104 #[.slice p n c,.string ⟨#[32,0]⟩] w fun e w' => e=.returned (.slice p (Lib.trimRightS bs [32,0]).length c)∧Below w.heap.size w w':=
 Any.bytes_TrimRight_ascii Tryz.lays7 (zero_of_info info256).1 (zero_of_info info256).2 p n c bs ⟨#[32,0]⟩ w hn hc (by unfold maxLen at hm;omega) h (by decide) (fun j b hb => by
  match j,hb with
  | 0,hb => cases hb;decide
  | 1,hb => cases hb;decide
  | j+2,hb => simp at hb)
theorem left_suffix (l cs:List UInt8):(Lib.trimLeftS l cs).length≤l.length∧l.drop (l.length - (Lib.trimLeftS l cs).length)=Lib.trimLeftS l cs:=by
 have h:Lib.trimLeftS l cs <:+ l:=List.dropWhile_suffix _;exact ⟨h.length_le,(List.suffix_iff_eq_drop.1 h).symm⟩
theorem left_bat {w:World} {p:Option Addr} {n c:Nat} {bs:List UInt8} (h:BAt w p n bs) (hn:bs.length=n) (hc:n≤c) :
 ∃ p' c',Lib.leftV p n c (n - (Lib.trimLeftS bs [32]).length)=.slice p' (Lib.trimLeftS bs [32]).length c'∧(Lib.trimLeftS bs [32]).length≤c'∧c'≤c∧BAt w p' (Lib.trimLeftS bs [32]).length (Lib.trimLeftS bs [32]):=by
 obtain ⟨h1,h2⟩:=left_suffix bs [32]
 by_cases h0:(Lib.trimLeftS bs [32]).length=0
 ·refine ⟨none,0,?_,by omega,by omega,fun hh => by omega⟩
  unfold Lib.leftV;rw [h0]
  by_cases hn0:n=0
  ·subst hn0;rfl
  ·rw [if_pos (by omega)]
 ·refine ⟨if c=n - (Lib.trimLeftS bs [32]).length then p else p.map (fun x => x.add (n - (Lib.trimLeftS bs [32]).length)),c - (n - (Lib.trimLeftS bs [32]).length),?_,by omega,by omega,?_⟩
  ·unfold Lib.leftV Lib.fromV
   rw [if_neg (by omega),show n - (n - (Lib.trimLeftS bs [32]).length)=(Lib.trimLeftS bs [32]).length by omega]
  ·have:=h.drop (k:=n - (Lib.trimLeftS bs [32]).length) (by omega) hc hn
   rw [show n - (n - (Lib.trimLeftS bs [32]).length)=(Lib.trimLeftS bs [32]).length by omega] at this
   rw [show bs.drop (n - (Lib.trimLeftS bs [32]).length)=Lib.trimLeftS bs [32] by rw [← hn];exact h2] at this
   exact this
set_option maxHeartbeats 800000 in
theorem parse_any (p:Option Addr) (n c:Nat) (bs:List UInt8) (w:World) (hn:bs.length=n) (hc:n≤c) (hm:c≤maxLen) (h:BAt w p n bs) :
 Calls Tryz.prog 73 #[.slice p n c] w fun e w' => e=.returned (.tuple #[.int .i64 (valI (parseF bs)),.bool (okI (parseF bs))])∧Below w.heap.size w w':=by
 have hm':=hm;unfold maxLen at hm'
 by_cases h0:n=0
 ·subst h0
  obtain rfl:bs=[]:=List.eq_nil_of_length_eq_zero hn;clear hn h
  go_enter Tryz.func73,Tryz.ntmps73
  go_wp2
  go_ret2
  exact ⟨rfl,Below.refl _ _⟩
 ·obtain ⟨b,o,rfl,hbw,hcell⟩:=h.cell (k:=0) (by omega)
  have hx:=hcell 0 (by omega)
  obtain ⟨x,l,rfl⟩:∃ x l,bs=x :: l:=by cases bs with
   | nil => simp at hn;omega
   | cons x l => exact ⟨x,l,rfl⟩
  have hx:w.cell? ⟨b,o,none⟩=some (.int .u8 x.toNat):=hx;have HN:=Lib.hid hn;have H:=Lib.hid h;clear hn h hcell;have hn0:((n:Int) == 0)=false:=by simp;omega
  obtain ⟨y,hy⟩:∃ y:Int,y=(x.toNat:Int):=⟨_,rfl⟩;rw [← hy] at hx;have HY:=Lib.hid hy;clear hy
  by_cases h128:y=128
  ·have hb128:(y == 128)=true:=by simpa using h128
   have hl:l.length=n - 1:=by have:=HN.out;simp at this;omega
   have E:Hid (parseF (x :: l)=digF 256 0 l 0):=Lib.hid (by rw [parseF,if_pos (by rw [← HY.out];exact h128)])
   have T:Hid (BAt w (if c=1 then some ⟨b,o,none⟩ else some ⟨b,o+1,none⟩) (n - 1) l):=Lib.hid (fun hh => by
    obtain ⟨b',o',e,hc'⟩:=H.out (by omega)
    cases e
    rw [if_neg (by omega)]
    refine ⟨b,o+1,rfl,fun i hi => ?_⟩
    rw [Nat.add_assoc,hc' (1+i) (by omega),Nat.add_comm 1 i]
    rfl)
   have HL:=Lib.hid hl;have H128:=Lib.hid h128;clear hl h128
   by_cases hc1:c=1
   ·have T':=T.out
    rw [if_pos hc1] at T';have HT:=Lib.hid T';clear T'
    go_enter Tryz.func73,Tryz.ntmps73
    go_wp2_with fail
    refine (number_any 256 0 _ (n - 1) _ l w (by omega) (by omega) (by omega) (by omega) HL.out (by unfold maxLen;omega) HT.out).mono ?_
    rintro e w' ⟨rfl,hb⟩
    go_wp2
    go_ret2
    rw [E.out];exact ⟨rfl,hb⟩
   ·have T':=T.out
    rw [if_neg hc1] at T';have HT:=Lib.hid T';clear T'
    go_enter Tryz.func73,Tryz.ntmps73
    go_wp2_with fail
    refine (number_any 256 0 _ (n - 1) _ l w (by omega) (by omega) (by omega) (by omega) HL.out (by unfold maxLen;omega) HT.out).mono ?_
    rintro e w' ⟨rfl,hb⟩
    go_wp2
    go_ret2
    rw [E.out];exact ⟨rfl,hb⟩
  ·have hb128:(y == 128)=false:=by simpa using h128
   have E:Hid (parseF (x :: l)=digF 8 48 (Lib.trimRightS (Lib.trimLeftS (x :: l) [32]) [32,0]) 0):=Lib.hid (by rw [parseF,if_neg (by rw [← HY.out];exact h128)])
   obtain ⟨p',c',hv,hcl,hcc,hbat⟩:=left_bat H.out HN.out hc;have HV:=Lib.hid hv;have HB:=Lib.hid hbat;clear hv hbat;have hll:(Lib.trimLeftS (x :: l) [32]).length≤n:=by have:=(left_suffix (x :: l) [32]).1;rw [HN.out] at this;exact this
   obtain ⟨k,hk⟩:∃ k,k=(Lib.trimLeftS (x :: l) [32]).length:=⟨_,rfl⟩;obtain ⟨m,hm2⟩:∃ m,m=(Lib.trimRightS (Lib.trimLeftS (x :: l) [32]) [32,0]).length:=⟨_,rfl⟩
   have hmk:m≤k:=by
    rw [hm2,hk];exact Lib.trimRightS_len_le _ _
   have HK:=Lib.hid hk;have HM:=Lib.hid hm2;rw [← hk] at hll hcl;clear hk hm2
   go_enter Tryz.func73,Tryz.ntmps73
   go_wp2_with fail
   refine (trimLeft_any _ n c (x :: l) w HN.out hc hm H.out).mono ?_
   rintro e w1 ⟨rfl,hb1⟩;rw [HV.out,← HK.out]
   go_wp2_with fail
   refine (trimRight_any p' k c' _ w1 HK.out.symm hcl (by omega) ((show BAt w p' k _ by rw [HK.out];exact HB.out).below hb1)).mono ?_
   rintro e w2 ⟨rfl,hb2⟩;rw [← HM.out]
   go_wp2_with fail
   refine (number_any 8 48 p' m c' (Lib.trimRightS (Lib.trimLeftS (x :: l) [32]) [32,0]) w2 (by omega) (by omega) (by omega) (by omega) HM.out.symm (by unfold maxLen;omega)
    (by
     have h1:=((show BAt w p' k _ by rw [HK.out];exact HB.out).take hmk).below (hb1.trans (hb2.mono hb1.size))
     have h2:=Lib.trimRightS_eq_take (Lib.trimLeftS (x :: l) [32]) [32,0];rw [← HM.out] at h2;rw [h2]
     exact h1)).mono ?_
   rintro e w3 ⟨rfl,hb3⟩
   go_wp2
   go_ret2
   rw [E.out];exact ⟨rfl,(hb1.trans (hb2.mono hb1.size)).trans (hb3.mono (Nat.le_trans hb1.size hb2.size))⟩
end Go.Proofs.YtnpkcneojilmkaaGreatDoor.Field
end
