/- Texts of this seat, merged: what the proof reaches. -/
import Derived.Test.YtnpkcneojilmkaaDoorWriteShortX8
import Derived.OpenShut
import Derived.ShutString
import Derived.Test.YtnpkcneojilmkaaDoorWriteShortX1
import Derived.Test.YtnpkcneojilmkaaDoorWriteShortX5
import Derived.Deep.Draws
import Derived.BigCall
import Derived.Shelf.RegionOpenPlain
import Derived.Test.YtnpkcneojilmkaaDoorWriteShortX2
section
namespace Go.Proofs.YtnpkcneojilmkaaDoor.Num
open Go.ChangeShapes Go.WideShapes Go.ChangeAt Go.RowKit Base
set_option linter.unusedVariables false
def inB (n l m:Int):Bool:=decide (l≤n∧n≤m)
theorem inB_true {n l m:Int} (h1:l≤n) (h2:n≤m):inB n l m=true:=by simp [inB,h1,h2]
theorem inB_false {n l m:Int} (h:¬ (l≤n∧n≤m)):inB n l m=false:=by simp only [inB,decide_eq_false_iff_not];exact h
theorem in_yes (n l m:Int) (w:World) (h1:l≤n) (h2:n≤m) :
 Calls Tryd.prog 59 #[.int .i64 n,.int .i64 l,.int .i64 m] w fun e w' => e=.returned (.bool true)∧w=w':=by
 go_enter Tryd.func59,Tryd.ntmps59
 go_wp2
 go_ret
 exact ⟨rfl,rfl⟩
theorem in_no (n l m:Int) (w:World) (h:¬ (l≤n∧n≤m)) :
 Calls Tryd.prog 59 #[.int .i64 n,.int .i64 l,.int .i64 m] w fun e w' => e=.returned (.bool false)∧w=w':=by
 by_cases h1:l≤n
 ·have h2:¬ n≤m:=fun h2 => h ⟨h1,h2⟩
  clear h
  go_enter Tryd.func59,Tryd.ntmps59
  go_wp2
  go_ret
  exact ⟨rfl,rfl⟩
 ·clear h
  go_enter Tryd.func59,Tryd.ntmps59
  go_wp2
  go_ret
  exact ⟨rfl,rfl⟩
theorem in_any (n l m:Int) (w:World) :
 Calls Tryd.prog 59 #[.int .i64 n,.int .i64 l,.int .i64 m] w fun e w' => e=.returned (.bool (inB n l m))∧w=w':=by
 by_cases h:l≤n∧n≤m
 ·rw [inB_true h.1 h.2];exact in_yes n l m w h.1 h.2
 ·rw [inB_false h];exact in_no n l m w h
def sumF:List Int → Int → Option Int
 | [],s => some s
 | x :: l,s => if 0≤x∧x≤4611686018427387904 - s then sumF l (s+x) else none
def valO:Option Int → Int
 | some s => s
 | none => 0
def okO:Option Int → Bool
 | some _ => true
 | none => false
theorem drop_cons (zs:List Int) (k:Nat) (h:k < zs.length):zs.drop k=zs.getD k 0 :: zs.drop (k+1):=by
 rw [List.drop_eq_getElem_cons h];simp [List.getD,h]
theorem sumF_step (zs:List Int) (k:Nat) (s:Int) (h:k < zs.length) (h0:0≤zs.getD k 0) (h1:zs.getD k 0≤4611686018427387904 - s) :
 sumF (zs.drop k) s=sumF (zs.drop (k+1)) (s+zs.getD k 0):=by
 rw [drop_cons zs k h,sumF,if_pos ⟨h0,h1⟩]
theorem sumF_stop (zs:List Int) (k:Nat) (s:Int) (h:k < zs.length) (h0:¬ (0≤zs.getD k 0∧zs.getD k 0≤4611686018427387904 - s)) :
 sumF (zs.drop k) s=none:=by
 rw [drop_cons zs k h,sumF,if_neg h0]
set_option maxHeartbeats 400000 in
theorem add_some (b off len cap:Nat) (zs:List Int) (w:World) (hl:zs.length=len) (hm:len≤maxLen)
 (hc:∀ i,i < len → w.cell? ⟨b,off+i,none⟩=some (.int .i64 (zs.getD i 0))) :
 Calls Tryd.prog 71 #[.slice (some ⟨b,off,none⟩) len cap] w fun e w' => e=.returned (.tuple #[.int .i64 (valO (sumF zs 0)),.bool (okO (sumF zs 0))])∧w=w':=by
 unfold maxLen at hm;have HL:Hid (zs.length=len):=hl;have HC:Hid (∀ i,i < len → w.cell? ⟨b,off+i,none⟩=some (.int .i64 (zs.getD i 0))):=hc;clear hl hc
 go_enter Tryd.func71,Tryd.ntmps71
 go_wp2
 go_loop [4,9] (fun t i => ∃ (k:Nat) (s:Int),k≤len∧0≤s∧s≤4611686018427387904∧i=.int .i64 k∧t=.int .i64 s∧Hid (sumF (zs.drop k) s=sumF zs 0)) (fun _ i => len - (RowKit.intOf i).toNat)
 case atStart => exact ⟨0,0,Nat.zero_le _,by omega,by decide,rfl,rfl,rfl⟩
 case round =>
  obtain ⟨k,s,hk,hs0,hs1,rfl,rfl,hr⟩:=hrel
  by_cases hlt:k < len
  ·have hcell:=HC.out k hlt
   obtain ⟨z,hz⟩:∃ z,z=zs.getD k 0:=⟨_,rfl⟩;rw [← hz] at hcell;have HZ:Hid (z=zs.getD k 0):=hz;clear hz
   by_cases hin:0≤z∧z≤4611686018427387904 - s
   ·obtain ⟨h0,h1⟩:=hin
    go_wp2_with (go_at_call 59;refine (in_yes _ _ _ _ (by omega) (by omega)).mono ?_;rintro e w' ⟨rfl,rfl⟩)
    go_round
    case rel => exact ⟨k+1,s+z,by omega,by omega,by omega,by go_num,rfl,Lib.hid (by rw [← hr.out,sumF_step zs k s (by rw [HL.out];exact hlt) (by rw [← HZ.out];exact h0) (by rw [← HZ.out];exact h1),← HZ.out])⟩
    case measure => simp [RowKit.intOf];omega
   ·go_wp2_with (go_at_call 59;refine (in_no _ _ _ _ hin).mono ?_;rintro e w' ⟨rfl,rfl⟩)
    go_ret2
    have E:sumF zs 0=none:=by rw [← hr.out];exact sumF_stop zs k s (by rw [HL.out];exact hlt) (by rw [← HZ.out];exact hin)
    rw [E];exact ⟨rfl,rfl⟩
  ·have hkl:Hid (k=len):=Lib.hid (by omega)
   go_wp2
   go_ret2
   have E:sumF zs 0=some s:=by rw [← hr.out,hkl.out,← HL.out,List.drop_length];rfl
   rw [E];exact ⟨rfl,rfl⟩
theorem sumF_two (a b:Int):sumF [a,b] 0=if 0≤a∧a≤4611686018427387904∧0≤b∧a+b≤4611686018427387904 then some (a+b) else none:=by
 simp only [sumF]
 by_cases h:0≤a∧a≤4611686018427387904 - 0
 ·rw [if_pos h]
  by_cases h2:0≤b∧b≤4611686018427387904 - (0+a)
  ·rw [if_pos h2,if_pos (by omega),Int.zero_add]
  ·rw [if_neg h2,if_neg (by omega)]
 ·rw [if_neg h,if_neg (by omega)]
theorem add_two (a b:Int) (w:World) :
 Calls Tryd.prog 71 #[.slice (some ⟨w.heap.size,0,none⟩) 2 2] (w.alloc (.cells #[.int .i64 a,.int .i64 b] 3)) fun e w' => e=.returned (.tuple #[.int .i64 (valO (sumF [a,b] 0)),.bool (okO (sumF [a,b] 0))])∧w.alloc (.cells #[.int .i64 a,.int .i64 b] 3)=w':=
 add_some _ _ 2 2 [a,b] _ rfl (by decide) (fun i hi => by
  match i,hi with
  | 0,_ => simp
  | 1,_ => simp)
def padF (n:Int):Int:=if 0≤n∧n≤4611686018427387904 then (if n % 512=0 then n else n+(512 - n % 512)) else 0
set_option maxHeartbeats 400000 in
theorem pad_any (n:Int) (w:World) :
 Calls Tryd.prog 53 #[.int .i64 n] w fun e w' => e=.returned (.tuple #[.int .i64 (padF n),.bool (inB n 0 4611686018427387904)])∧Below w.heap.size w w':=by
 by_cases h:0≤n∧n≤4611686018427387904
 ·obtain ⟨h0,h1⟩:=h
  by_cases h2:n % 512=0
  ·have HP:Hid (padF n=n):=Lib.hid (by rw [padF,if_pos ⟨h0,h1⟩,if_pos h2])
   have hb:(n % 512 == 0)=true:=by simpa using h2
   have H2:=Lib.hid h2;clear h2
   go_enter Tryd.func53,Tryd.ntmps53
   go_wp2_with (go_at_call 59;refine (in_yes _ _ _ _ (by omega) (by omega)).mono ?_;rintro e w' ⟨rfl,rfl⟩)
   go_ret2
   rw [HP.out,inB_true h0 h1];exact ⟨rfl,Below.refl _ _⟩
  ·have HP:Hid (padF n=n+(512 - n % 512)):=Lib.hid (by rw [padF,if_pos ⟨h0,h1⟩,if_neg h2])
   have hb:(n % 512 == 0)=false:=by simpa using h2
   have H2:=Lib.hid h2;clear h2
   go_enter Tryd.func53,Tryd.ntmps53
   go_wp2_with (go_at_call 59;refine (in_yes _ _ _ _ (by omega) (by omega)).mono ?_;rintro e w' ⟨rfl,rfl⟩)
   refine (add_two n (512 - n % 512) _).mono ?_
   rintro e w' ⟨rfl,rfl⟩;rw [sumF_two,if_pos (by have:=H2.out;omega)]
   go_wp2
   go_ret2
   rw [HP.out,inB_true h0 h1];exact ⟨rfl,(Below.refl _ _).alloc (Nat.le_refl _) _⟩
 ·have HP:Hid (padF n=0):=Lib.hid (by rw [padF,if_neg h])
  go_enter Tryd.func53,Tryd.ntmps53
  go_wp2_with (go_at_call 59;refine (in_no _ _ _ _ h).mono ?_;rintro e w' ⟨rfl,rfl⟩)
  go_ret2
  rw [HP.out,inB_false h];exact ⟨rfl,Below.refl _ _⟩
end Go.Proofs.YtnpkcneojilmkaaDoor.Num
end
section
namespace Go.Proofs.YtnpkcneojilmkaaDoor.Path
open Go.ChangeShapes Go.WideShapes Go.ChangeAt Go.RowKit Go.Shelf Base Byt Txt Go.Lib
set_option linter.unusedVariables false
set_option maxRecDepth 100000
theorem join_any (c p:List UInt8) (w:World) (hm:c.length+p.length≤2000000000000) :
 Calls Tryd.prog 58 #[.string (str c),.string (str p)] w fun e w' => e=.returned (.string (str (joinP c p)))∧w=w':=by
 have hs:(str c).size+1+(str p).size≤9223372036854775807:=by rw [str_size,str_size];omega
 have hs1:(str c).size+1≤9223372036854775807:=by omega
 clear hm
 by_cases h1:p=[]
 ·have e:str (joinP c p)=str c:=by unfold joinP;rw [if_pos (.inl h1)]
  have b1:(str p).toList.isEmpty=true:=by rw [str_empty];simpa using h1
  rw [e];clear e h1
  go_enter Tryd.func58,Tryd.ntmps58
  go_wp2
  go_ret
  exact ⟨rfl,rfl⟩
 ·have b1:(str p).toList.isEmpty=false:=by rw [str_empty];simpa using h1
  by_cases h2:p=[46]
  ·have e:str (joinP c p)=str c:=by unfold joinP;rw [if_pos (.inr h2)]
   have b2:((str p).toList == [46])=true:=by rw [str_is];simpa using h2
   rw [e];clear e h1 h2
   go_enter Tryd.func58,Tryd.ntmps58
   go_wp2
   go_ret
   exact ⟨rfl,rfl⟩
  ·have b2:((str p).toList == [46])=false:=by rw [str_is];simpa using h2
   by_cases h3:c=[]
   ·have e:str (joinP c p)=str p:=by unfold joinP;rw [if_neg (by simp [h1,h2]),if_pos h3]
    have b3:(str c).toList.isEmpty=true:=by rw [str_empty];simpa using h3
    rw [e];clear e h1 h2 h3
    go_enter Tryd.func58,Tryd.ntmps58
    go_wp2
    go_ret
    exact ⟨rfl,rfl⟩
   ·have e:str c++⟨#[47]⟩++str p=str (joinP c p):=by
     unfold joinP;rw [if_neg (by simp [h1,h2]),if_neg h3,show (⟨#[47]⟩:ByteArray)=str [47] from rfl,str_app,str_app]
     simp
    have b3:(str c).toList.isEmpty=false:=by rw [str_empty];simpa using h3
    rw [← e];clear e h1 h2 h3
    go_enter Tryd.func58,Tryd.ntmps58
    go_wp2
    go_ret
    exact ⟨rfl,rfl⟩
def cutL (l:List UInt8):List UInt8 × List UInt8 × Bool:=
 if 0≤Lib.indexByte l 47 then (l.take (Lib.indexByte l 47).toNat,l.drop ((Lib.indexByte l 47).toNat+1),true) else (l,[],false)
theorem slCut_any (l:List UInt8) (w:World) (hm:l.length≤1000000000000) :
 Calls Tryd.prog 83 #[.string (str l),.string ⟨#[47]⟩] w fun e w' => e=.returned (.tuple #[.string (str (cutL l).1),.string (str (cutL l).2.1),.bool (cutL l).2.2]) ∧ ∃ n,w'=w.drewN n:=by
 have hidx:=Any.stringslite_Index_one Tryd.laysIndex (str l) 47 w;rw [str_data] at hidx;have hs:(str l).size=l.length:=str_size l;unfold cutL
 by_cases h:0≤Lib.indexByte l 47
 ·obtain ⟨k,hk⟩:∃ k:Nat,Lib.indexByte l 47=k:=⟨(Lib.indexByte l 47).toNat,by omega⟩
  have hlt:=(List.getElem?_eq_some_iff.1 (Lib.indexByte_some hk).1).1;rw [if_pos h,hk,Int.toNat_natCast];rw [hk] at hidx;clear h hk;simp only;have e1:(str l).extract 0 k=str (l.take k):=str_take l k;have e2:(str l).extract (k+1) (str l).size=str (l.drop (k+1)):=str_drop l (k+1) _ hs;rw [← e1,← e2];have c1:(0:Int)≤(k:Int):=by omega
  have c2:(k:Int)≤((str l).size:Int):=by omega
  have c3:(0:Int)≤(k:Int)+1:=by omega
  have c4:(k:Int)+1≤((str l).size:Int):=by omega
  have c5:((str l).size:Int)≤1000000000000:=by omega
  clear e1 e2;have mixed:Tryd.prog.follows .mixedOrders=true:=by kernel_rfl
  go_enter Tryd.func83,Tryd.ntmps83
  go_wp2_with (go_at_call 88;refine hidx.mono ?_;rintro e w' ⟨rfl,rfl⟩)
  go_region_o
  go_wp2
  go_ret3
  exact ⟨rfl,1,rfl⟩
 ·rw [if_neg h]
  have hn:Lib.indexByte l 47 = -1:=by have:=Lib.indexByte_ge l 47;omega
  rw [hn] at hidx;clear h hn
  go_enter Tryd.func83,Tryd.ntmps83
  go_wp2_with (go_at_call 88;refine hidx.mono ?_;rintro e w' ⟨rfl,rfl⟩)
  go_ret3
  exact ⟨rfl,0,rfl⟩
theorem cutSlash_any (l:List UInt8) (w:World) (hm:l.length≤1000000000000) :
 Calls Tryd.prog 75 #[.string (str l),.string ⟨#[47]⟩] w fun e w' => e=.returned (.tuple #[.string (str (cutL l).1),.string (str (cutL l).2.1),.bool (cutL l).2.2]) ∧ ∃ n,w'=w.drewN n:=by
 have hc:=slCut_any l w hm
 go_enter Tryd.func75,Tryd.ntmps75
 go_wp2_with (go_at_call 83;refine hc.mono ?_;rintro e w' ⟨rfl,n,rfl⟩)
 go_ret3
 exact ⟨rfl,n,rfl⟩
end Go.Proofs.YtnpkcneojilmkaaDoor.Path
end
