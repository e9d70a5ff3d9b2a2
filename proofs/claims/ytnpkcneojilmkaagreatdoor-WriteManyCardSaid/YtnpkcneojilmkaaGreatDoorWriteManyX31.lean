/- Texts of this seat, merged: what the proof reaches. -/
import Derived.Test.YtnpkcneojilmkaaGreatDoorWriteManyX19
import Derived.Shelf.Unicode.ValidAny
import Derived.Test.YtnpkcneojilmkaaGreatDoorWriteManyX24
import Derived.Lib.ItoaNum
import Derived.Lib.LaidTab
import Derived.Deep.Draws
import Derived.Shelf.RegionOpenPlain
import Derived.Test.YtnpkcneojilmkaaGreatDoorWriteManyX23
import Derived.Lib.AppendStr
import Derived.Test.YtnpkcneojilmkaaGreatDoorWriteManyX29
import Derived.Test.YtnpkcneojilmkaaGreatDoorWriteManyX26
import Derived.Test.YtnpkcneojilmkaaGreatDoorWriteManyX17
import Derived.Test.YtnpkcneojilmkaaGreatDoorWriteManyX30
section
namespace Go.Proofs.YtnpkcneojilmkaaGreatDoor.Path
open Go.ChangeShapes Go.WideShapes Go.ChangeAt Go.RowKit Go.Shelf Base Byt Txt Go.Lib Num
set_option linter.unusedVariables false
set_option maxRecDepth 100000
theorem right_any (l:List UInt8) (w:World) (hm:l.length≤1000000000000) (hT:Tabs w) :
 Calls Tryz.prog 94 #[.string (str l)] w fun e w' => e=.returned (.bool (textD l))∧Below w.heap.size w w':=by
 have hV:=Any.utf8_ValidString Tryz.laysValid (str l) w (by rw [str_size];omega) hT
 have hC:=fun w => Any.strings_Contains_one Tryz.laysConts (str l) 0 w
 rw [str_data] at hV;simp only [str_data,index_has] at hC;rw [text_valid];have mixed:Tryz.prog.follows .mixedOrders=true:=by kernel_rfl
 clear hT hm
 cases hv:Lib.validD l with
 | false =>
   rw [hv] at hV;clear hC
   go_enter Tryz.func94,Tryz.ntmps94
   go_wp2_with (go_at_call 124;refine hV.mono ?_;rintro e w1 ⟨rfl,hb⟩)
   go_ret
   exact ⟨rfl,hb⟩
 | true =>
   rw [hv] at hV
   cases hc:l.contains 0 with
   | false =>
     rw [hc] at hC
     go_enter Tryz.func94,Tryz.ntmps94
     go_wp2_with (first | (go_at_call 124;refine hV.mono ?_;rintro e w1 ⟨rfl,hb⟩) | (go_at_call 118;refine (hC _).mono ?_;rintro e w2 ⟨rfl,rfl⟩))
     go_ret
     exact ⟨rfl,hb⟩
   | true =>
     rw [hc] at hC
     go_enter Tryz.func94,Tryz.ntmps94
     go_wp2_with (first | (go_at_call 124;refine hV.mono ?_;rintro e w1 ⟨rfl,hb⟩) | (go_at_call 118;refine (hC _).mono ?_;rintro e w2 ⟨rfl,rfl⟩))
     go_ret
     exact ⟨rfl,hb⟩
theorem target_any (l:List UInt8) (w:World) (hm:l.length≤1000000000000) (hT:Tabs w) :
 Calls Tryz.prog 99 #[.string (str l)] w fun e w' => e=.returned (.int .i64 (targetD 9 6 l))∧Below w.heap.size w w':=by
 have hR:=right_any l w hm hT;have hs:(str l).size=l.length:=str_size l;unfold targetD;clear hT
 cases ht:textD l with
 | false =>
   rw [ht] at hR;rw [if_pos rfl];clear hm hs
   go_enter Tryz.func99,Tryz.ntmps99
   go_wp2_with (go_at_call 94;refine hR.mono ?_;rintro e w1 ⟨rfl,hb⟩)
   go_ret
   exact ⟨rfl,hb⟩
 | true =>
   rw [ht] at hR;rw [if_neg (by simp)]
   obtain ⟨n,hn⟩:∃ n,(str l).size=n:=⟨_,rfl⟩
   by_cases h:l=[] ∨ 200 < l.length
   ·have hi:inB (n:Int) 1 200=false:=by
     refine inB_false ?_
     rw [← hn,hs];rcases h with rfl | h
     ·simp
     ·omega
    rw [if_pos h];clear hm hs h
    go_enter Tryz.func99,Tryz.ntmps99
    go_wp2_with (first | (go_at_call 94;refine hR.mono ?_;rintro e w1 ⟨rfl,hb⟩) | (go_at_call 98;refine (in_any _ _ _ _).mono ?_;rw [hi];rintro e w2 ⟨rfl,rfl⟩))
    go_ret
    exact ⟨rfl,hb⟩
   ·have hi:inB (n:Int) 1 200=true:=by
     have:0 < l.length:=List.length_pos_iff.2 fun e => h (.inl e)
     exact inB_true (by omega) (by omega)
    rw [if_neg h];clear hm hs h
    go_enter Tryz.func99,Tryz.ntmps99
    go_wp2_with (first | (go_at_call 94;refine hR.mono ?_;rintro e w1 ⟨rfl,hb⟩) | (go_at_call 98;refine (in_any _ _ _ _).mono ?_;rw [hi];rintro e w2 ⟨rfl,rfl⟩))
    go_ret
    exact ⟨rfl,hb⟩
end Go.Proofs.YtnpkcneojilmkaaGreatDoor.Path
end
section
namespace Go.Proofs.YtnpkcneojilmkaaGreatDoor.Rec
open Go.ChangeShapes Go.WideShapes Go.ChangeAt Go.RowKit Go.Shelf Base Byt Txt Path Go.Lib
set_option linter.unusedVariables false
set_option maxRecDepth 100000
theorem recRight_any (l:List UInt8) (w:World) (hm:l.length≤1000000000000) (hT:Tabs w) :
 Calls Tryz.prog 109 #[.string (str l)] w fun e w' => e=.returned (.bool (textD l))∧Below w.heap.size w w':=by
 have hT1:=target_any l w hm hT;obtain ⟨r,hr⟩:∃ r,targetD 9 6 l=r:=⟨_,rfl⟩
 have hne:(r != 9)=textD l:=by
  rw [← hr];unfold targetD
  cases textD l with
  | false => rfl
  | true =>
    rw [if_neg (by simp)]
    split<;>rfl
 rw [hr] at hT1;clear hT hm hr
 cases ht:textD l with
 | false =>
   rw [ht] at hne
   go_enter Tryz.func109,Tryz.ntmps109
   go_wp2_with (go_at_call 99;refine hT1.mono ?_;rintro e w1 ⟨rfl,hb⟩)
   go_ret
   exact ⟨rfl,hb⟩
 | true =>
   rw [ht] at hne
   go_enter Tryz.func109,Tryz.ntmps109
   go_wp2_with (go_at_call 99;refine hT1.mono ?_;rintro e w1 ⟨rfl,hb⟩)
   go_ret
   exact ⟨rfl,hb⟩
def cutQ (l:List UInt8):List UInt8 × List UInt8 × Bool:=
 if 0≤Lib.indexByte l 61 then (l.take (Lib.indexByte l 61).toNat,l.drop ((Lib.indexByte l 61).toNat+1),true) else (l,[],false)
theorem slCutQ_any (l:List UInt8) (w:World) (hm:l.length≤1000000000000) :
 Calls Tryz.prog 141 #[.string (str l),.string ⟨#[61]⟩] w fun e w' => e=.returned (.tuple #[.string (str (cutQ l).1),.string (str (cutQ l).2.1),.bool (cutQ l).2.2]) ∧ ∃ n,w'=w.drewN n:=by
 have hidx:=Any.stringslite_Index_one Tryz.laysIndex (str l) 61 w;rw [str_data] at hidx;have hs:(str l).size=l.length:=str_size l;unfold cutQ
 by_cases h:0≤Lib.indexByte l 61
 ·obtain ⟨k,hk⟩:∃ k:Nat,Lib.indexByte l 61=k:=⟨(Lib.indexByte l 61).toNat,by omega⟩
  have hlt:=(List.getElem?_eq_some_iff.1 (Lib.indexByte_some hk).1).1;rw [if_pos h,hk,Int.toNat_natCast];rw [hk] at hidx;clear h hk;simp only;have e1:(str l).extract 0 k=str (l.take k):=str_take l k;have e2:(str l).extract (k+1) (str l).size=str (l.drop (k+1)):=str_drop l (k+1) _ hs;rw [← e1,← e2];have c1:(0:Int)≤(k:Int):=by omega
  have c2:(k:Int)≤((str l).size:Int):=by omega
  have c3:(0:Int)≤(k:Int)+1:=by omega
  have c4:(k:Int)+1≤((str l).size:Int):=by omega
  have c5:((str l).size:Int)≤1000000000000:=by omega
  clear e1 e2;have mixed:Tryz.prog.follows .mixedOrders=true:=by kernel_rfl
  go_enter Tryz.func141,Tryz.ntmps141
  go_wp2_with (go_at_call 156;refine hidx.mono ?_;rintro e w' ⟨rfl,rfl⟩)
  go_region_o
  go_wp2
  go_ret3
  exact ⟨rfl,1,rfl⟩
 ·rw [if_neg h]
  have hn:Lib.indexByte l 61 = -1:=by have:=Lib.indexByte_ge l 61;omega
  rw [hn] at hidx;clear h hn
  go_enter Tryz.func141,Tryz.ntmps141
  go_wp2_with (go_at_call 156;refine hidx.mono ?_;rintro e w' ⟨rfl,rfl⟩)
  go_ret3
  exact ⟨rfl,0,rfl⟩
theorem cutQ_any (l:List UInt8) (w:World) (hm:l.length≤1000000000000) :
 Calls Tryz.prog 108 #[.string (str l),.string ⟨#[61]⟩] w fun e w' => e=.returned (.tuple #[.string (str (cutQ l).1),.string (str (cutQ l).2.1),.bool (cutQ l).2.2]) ∧ ∃ n,w'=w.drewN n:=by
 have hc:=slCutQ_any l w hm
 go_enter Tryz.func108,Tryz.ntmps108
 go_wp2_with (go_at_call 141;refine hc.mono ?_;rintro e w' ⟨rfl,n,rfl⟩)
 go_ret3
 exact ⟨rfl,n,rfl⟩
theorem recMayBe_any (k v:List UInt8) (w:World) (hk:k.length≤1000000000000) (hv:v.length≤1000000000000) (hN:Need w) :
 Calls Tryz.prog 116 #[.agg #[.string (str k),.string (str v)]] w fun e w' => e=.returned (.bool (mayD k v))∧Below w.heap.size w w':=by
 obtain ⟨a,ha⟩:∃ a,a=str k:=⟨_,rfl⟩;obtain ⟨b,hb⟩:∃ b,b=str v:=⟨_,rfl⟩;have HZ:Hid (a.size=k.length∧b.size=v.length):=Lib.hid ⟨by rw [ha,str_size],by rw [hb,str_size]⟩
 have ha1:(a.size:Int)≤1000000000000:=by have:=HZ.out;omega
 have hb1:(b.size:Int)≤1000000000000:=by have:=HZ.out;omega
 obtain ⟨M,hM⟩:∃ M,mayD k v=M:=⟨_,rfl⟩;have HM:=Lib.hid hM;rw [hM];obtain ⟨c0,c1⟩:=cells2 w 37 (.string a) (.string b);have HA:Hid (Below w.heap.size w (w.alloc (.cells #[.string a,.string b] 37))):=Lib.hid ((Below.refl _ _).alloc (Nat.le_refl _) _);have HT:=Lib.hid hN.tabs;have hC:=fun w => Any.strings_Contains_one Tryz.laysConts a 61 w
 have hRa:=fun w1 h => recRight_any k w1 hk h
 have hRb:=fun w1 h => recRight_any v w1 hv h
 rw [← ha] at hRa;rw [← hb] at hRb
 have hi:∀ w,Calls Tryz.prog 118 #[.string a,.string ⟨#[61]⟩] w fun e w' => e=.returned (.bool (k.contains 61))∧w'=w:=by
  intro w;have:=hC w
  rwa [show a.data.toList=k by rw [ha,str_data],index_has] at this
 have HRA:=Lib.hid hRa;have HRB:=Lib.hid hRb;have HC:=Lib.hid hi;have he:a.toList.isEmpty=k.isEmpty:=by rw [ha,str_toList]
 rw [← ha,← hb];clear hM hN hC hi hRa hRb ha hb
 by_cases h1:k=[]
 ·obtain rfl:false=M:=by rw [← HM.out,h1];rfl
  have h1b:a.toList.isEmpty=true:=by rw [he,h1];rfl
  clear h1 he hk hv
  go_enter Tryz.func116,Tryz.ntmps116
  go_wp2
  go_ret
  exact ⟨rfl,HA.out⟩
 ·have hke:k.isEmpty=false:=by
   cases h:k with
   | nil => exact absurd h h1
   | cons _ _ => rfl
  have h1b:a.toList.isEmpty=false:=by rw [he,hke]
  cases h2:k.contains 61 with
  | true =>
    obtain rfl:false=M:=by rw [← HM.out];unfold mayD;rw [h2];rfl
    rw [h2] at HC;clear h1 he hk hv hke
    go_enter Tryz.func116,Tryz.ntmps116
    go_wp2_with fail
    refine (HC.out _).mono ?_
    rintro e w' ⟨rfl,rfl⟩
    go_wp2
    go_ret
    exact ⟨rfl,HA.out⟩
  | false =>
    rw [h2] at HC
    have HMM:Hid ((textD k && textD v && decide (k.length+v.length≤100000))=M):=Lib.hid (by
     have:=HM.out;simp only [mayD,h2,hke,Bool.not_false,Bool.true_and] at this
     exact this)
    cases ht:textD k with
    | false =>
      obtain rfl:false=M:=by rw [← HMM.out,ht];rfl
      rw [ht] at HRA;clear h1 he hk hv hke
      go_enter Tryz.func116,Tryz.ntmps116
      go_wp2_with fail
      refine (HC.out _).mono ?_
      rintro e w' ⟨rfl,rfl⟩
      go_wp2_with fail
      refine (HRA.out _ (HT.out.below HA.out)).mono ?_
      rintro e w2 ⟨rfl,hb2⟩;have HB2:=Lib.hid (HA.out.trans (hb2.mono HA.out.size));clear hb2
      go_wp2
      go_ret
      exact ⟨rfl,HB2.out⟩
    | true =>
      rw [ht] at HRA
      cases ht2:textD v with
      | false =>
        obtain rfl:false=M:=by rw [← HMM.out,ht,ht2];rfl
        rw [ht2] at HRB;clear h1 he hk hv hke
        go_enter Tryz.func116,Tryz.ntmps116
        go_wp2_with fail
        refine (HC.out _).mono ?_
        rintro e w' ⟨rfl,rfl⟩
        go_wp2_with fail
        refine (HRA.out _ (HT.out.below HA.out)).mono ?_
        rintro e w2 ⟨rfl,hb2⟩;have d0:=(hb2.cell (p:=⟨w.heap.size,0,none⟩) (by rw [World.size_alloc];exact Nat.lt_succ_self _)).trans c0
        have d1:=(hb2.cell (p:=⟨w.heap.size,1,none⟩) (by rw [World.size_alloc];exact Nat.lt_succ_self _)).trans c1
        have HB2:=Lib.hid (HA.out.trans (hb2.mono HA.out.size));clear hb2 c0 c1
        go_wp2_with fail
        refine (HRB.out _ (HT.out.below HB2.out)).mono ?_
        rintro e w3 ⟨rfl,hb3⟩;have HB3:=Lib.hid (HB2.out.trans (hb3.mono HB2.out.size));clear hb3
        go_wp2
        go_ret
        exact ⟨rfl,HB3.out⟩
      | true =>
        have hML:decide ((a.size:Int)+(b.size:Int)≤100000)=M:=by
         rw [← HMM.out,ht,ht2,HZ.out.1,HZ.out.2];simp;omega
        rw [ht2] at HRB;clear h1 he hk hv hke
        go_enter Tryz.func116,Tryz.ntmps116
        go_wp2_with fail
        refine (HC.out _).mono ?_
        rintro e w' ⟨rfl,rfl⟩
        go_wp2_with fail
        refine (HRA.out _ (HT.out.below HA.out)).mono ?_
        rintro e w2 ⟨rfl,hb2⟩;have d0:=(hb2.cell (p:=⟨w.heap.size,0,none⟩) (by rw [World.size_alloc];exact Nat.lt_succ_self _)).trans c0
        have d1:=(hb2.cell (p:=⟨w.heap.size,1,none⟩) (by rw [World.size_alloc];exact Nat.lt_succ_self _)).trans c1
        have HB2:=Lib.hid (HA.out.trans (hb2.mono HA.out.size));clear c0 c1
        go_wp2_with fail
        refine (HRB.out _ (HT.out.below HB2.out)).mono ?_
        rintro e w3 ⟨rfl,hb3⟩;have hlt2:w.heap.size < w2.heap.size:=Nat.lt_of_lt_of_le (by rw [World.size_alloc];exact Nat.lt_succ_self _) hb2.size
        have e0:=(hb3.cell (p:=⟨w.heap.size,0,none⟩) hlt2).trans d0;have e1:=(hb3.cell (p:=⟨w.heap.size,1,none⟩) hlt2).trans d1;have HB3:=Lib.hid (HB2.out.trans (hb3.mono HB2.out.size));clear hb2 hb3 d0 d1 hlt2
        go_wp2
        go_ret
        exact ⟨rfl,HB3.out⟩
end Go.Proofs.YtnpkcneojilmkaaGreatDoor.Rec
end
section
namespace Go.Proofs.YtnpkcneojilmkaaGreatDoor.Rec
open Go.ChangeShapes Go.WideShapes Go.ChangeAt Go.RowKit Base Byt Txt Path Go.Lib
set_option linter.unusedVariables false
set_option maxRecDepth 100000
set_option maxHeartbeats 1000000 in
theorem recLine_any (k v:List UInt8) (w:World) (hk:k.length≤1000000000000) (hv:v.length≤1000000000000) (hkv:k.length+v.length≤1000000000000) (hN:Need w) :
 Calls Tryz.prog 91 #[.agg #[.string (str k),.string (str v)]] w fun e w' =>
  e=.returned (.tuple #[.string (str (if mayD k v then lineD k v else [])),.bool (mayD k v)])∧Below w.heap.size w w':=by
 have HMAY:=Lib.hid (fun w1 h => recMayBe_any k v w1 hk hv h)
 have HT:=Lib.hid hN;obtain ⟨a,ha⟩:∃ a,a=str k:=⟨_,rfl⟩;obtain ⟨b,hb⟩:∃ b,b=str v:=⟨_,rfl⟩;obtain ⟨n1,hn1⟩:∃ n,a.size=n:=⟨_,rfl⟩;obtain ⟨n2,hn2⟩:∃ n,b.size=n:=⟨_,rfl⟩;have m1:k.length=n1:=by rw [← hn1,ha,str_size]
 have m2:v.length=n2:=by rw [← hn2,hb,str_size]
 have hbd:(⟨#[32]⟩:ByteArray)++a++⟨#[61]⟩++b++⟨#[10]⟩=str (bodyD k v):=by
  rw [ha,hb,show (⟨#[32]⟩:ByteArray)=str [32] from rfl,show (⟨#[61]⟩:ByteArray)=str [61] from rfl,show (⟨#[10]⟩:ByteArray)=str [10] from rfl,Txt.str_app,Txt.str_app,Txt.str_app,Txt.str_app]
  simp [bodyD]
 have s1:1+n1≤9223372036854775807:=by omega
 have s2:1+n1+1≤9223372036854775807:=by omega
 have s3:1+n1+1+n2≤9223372036854775807:=by omega
 have s4:1+n1+1+n2+1≤9223372036854775807:=by omega
 obtain ⟨B,hB⟩:∃ B,B=str (bodyD k v):=⟨_,rfl⟩;obtain ⟨m,hm⟩:∃ m,m=(bodyD k v).length:=⟨_,rfl⟩;have hBs:B.size=m:=by rw [hB,str_size,hm]
 have hm2:m=n1+n2+3:=by rw [hm,bodyD_length,m1,m2]
 rw [← hB] at hbd;obtain ⟨D,hD⟩:∃ D,D=str (decL (lineN m)):=⟨_,rfl⟩;have HL:Hid (str (lineD k v)=D++B):=Lib.hid (by rw [hB,hD,Txt.str_app,lineD,hm])
 have hDs:D.size+m≤9223372036854775807:=by
  have h1:=lineN_eq m (by omega)
  have h2:=lineN_ge m;have h3:=dec_le m 18 (by omega) (by omega)
  rw [hD,str_size];omega
 have HC:Hid (∀ w,Need w → Calls Tryz.prog 117 #[.int .i64 (m:Int)] w fun e w' => e=.returned (.string D)∧Below w.heap.size w w'):=Lib.hid (fun w h => by
  rw [hD]
  exact recCount_any m w (by omega) (by omega) h)
 rw [← ha,← hb] at HMAY ⊢;obtain ⟨c0,c1⟩:=cells2 w 37 (.string a) (.string b);have HA:Hid (Below w.heap.size w (w.alloc (.cells #[.string a,.string b] 37))):=Lib.hid ((Below.refl _ _).alloc (Nat.le_refl _) _);clear m1 m2 hB hm hm2 hkv hk hv hN ha hb hD
 cases hmay:mayD k v with
 | true =>
   rw [hmay] at HMAY;rw [if_pos rfl,HL.out];clear hmay
   go_enter Tryz.func91,Tryz.ntmps91
   go_wp2_with fail
   refine (HMAY.out _ (HT.out.below HA.out)).mono ?_
   rintro e w1 ⟨rfl,hb1⟩;have d0:=(hb1.cell (p:=⟨w.heap.size,0,none⟩) (by rw [World.size_alloc];exact Nat.lt_succ_self _)).trans c0
   have d1:=(hb1.cell (p:=⟨w.heap.size,1,none⟩) (by rw [World.size_alloc];exact Nat.lt_succ_self _)).trans c1
   have HB1:=Lib.hid (HA.out.trans (hb1.mono HA.out.size));clear hb1 c0 c1
   go_wp2_with fail
   refine (HC.out _ (HT.out.below HB1.out)).mono ?_
   rintro e w2 ⟨rfl,hb2⟩;have HB2:=Lib.hid (HB1.out.trans (hb2.mono HB1.out.size));clear hb2 s1 s2 s3 s4
   go_wp2
   go_ret2
   exact ⟨rfl,HB2.out⟩
 | false =>
   rw [hmay] at HMAY;rw [if_neg (by simp)]
   clear hmay
   go_enter Tryz.func91,Tryz.ntmps91
   go_wp2_with fail
   refine (HMAY.out _ (HT.out.below HA.out)).mono ?_
   rintro e w1 ⟨rfl,hb1⟩;have HB1:=Lib.hid (HA.out.trans (hb1.mono HA.out.size));clear hb1
   go_wp2
   go_ret2
   exact ⟨rfl,HB1.out⟩
theorem recLine_yes (k v:List UInt8) (w:World) (hm:mayD k v=true) (hkv:k.length+v.length≤1000000000000) (hN:Need w) :
 Calls Tryz.prog 91 #[.agg #[.string (str k),.string (str v)]] w fun e w' => e=.returned (.tuple #[.string (str (lineD k v)),.bool true])∧Below w.heap.size w w':=by
 have:=recLine_any k v w (by omega) (by omega) hkv hN
 rwa [hm,if_pos rfl] at this
theorem recLine_no (k v:List UInt8) (w:World) (hm:mayD k v=false) (hkv:k.length+v.length≤1000000000000) (hN:Need w) :
 Calls Tryz.prog 91 #[.agg #[.string (str k),.string (str v)]] w fun e w' => e=.returned (.tuple #[.string (str []),.bool false])∧Below w.heap.size w w':=by
 have:=recLine_any k v w (by omega) (by omega) hkv hN
 rwa [hm,if_neg (by simp)] at this
theorem lines_take (rs:List (List UInt8 × List UInt8)) (j:Nat) (h:j < rs.length):linesD (rs.take (j+1))=linesD (rs.take j)++lineD (rs.getD j ([],[])).1 (rs.getD j ([],[])).2:=by
 rw [List.take_add_one,List.getElem?_eq_getElem h,List.getD,List.getElem?_eq_getElem h];simp only [Option.toList,linesD,List.map_append,List.flatten_append,List.map_cons,List.map_nil,List.flatten_cons,List.flatten_nil,List.append_nil,Option.getD_some]
theorem getD_mem (rs:List (List UInt8 × List UInt8)) (j:Nat) (h:j < rs.length):rs.getD j ([],[]) ∈ rs:=by
 rw [List.getD,List.getElem?_eq_getElem h];exact List.getElem_mem h
theorem take_all (rs:List (List UInt8 × List UInt8)) (j:Nat) (h:j < rs.length) (P:List UInt8 × List UInt8 → Prop) (h1:∀ r ∈ rs.take j,P r) (h2:P (rs.getD j ([],[]))):∀ r ∈ rs.take (j+1),P r:=by
 intro r hr;rw [List.take_add_one,List.getElem?_eq_getElem h] at hr;rcases List.mem_append.1 hr with h3 | h3
 ·exact h1 r h3
 ·rw [List.getD,List.getElem?_eq_getElem h] at h2
  simp at h3;rw [h3];exact h2
theorem lines_len (l:List (List UInt8 × List UInt8)) (h:∀ r ∈ l,mayD r.1 r.2=true):(linesD l).length≤100010 * l.length:=by
 induction l with
 | nil => simp [linesD]
 | cons r l ih =>
   have h1:=ih fun x hx => h x (List.mem_cons_of_mem _ hx)
   have hr:=h r (by simp)
   obtain ⟨d,_,_,_,_,h7,_,hl⟩:=line_parts hr;have h5:=(mayD_spec hr).2.2.2.2;have e:linesD (r :: l)=lineD r.1 r.2++linesD l:=by simp [linesD]
   rw [e,List.length_append,List.length_cons];omega
theorem nums_app (a b:List UInt8):nums (a++b)=nums a++nums b:=by simp [nums]
theorem strCells_str (l:List UInt8):strCells (str l)=(nums l).map (Value.int .u8):=by
 unfold strCells nums;rw [str_data,List.map_map];rfl
def PutsOwn (rs:List (List UInt8 × List UInt8)) (w:World) (e:Ending) (w':World):Prop:=
 ((∀ r ∈ rs,mayD r.1 r.2=true) → ∃ p c,e=.returned (.tuple #[.slice p (linesD rs).length c,.bool true])∧(linesD rs).length≤c∧c≤maxLen∧BAt w' p (linesD rs).length (linesD rs)∧(∀ x,p=some x → w.heap.size≤x.block)) ∧
   ((∃ r ∈ rs,mayD r.1 r.2=false) → e=.returned (.tuple #[.slice none 0 0,.bool false]))∧Below w.heap.size w w'
theorem infoOctR:(Tryz.prog.info? 5).map (fun i => (i.zero,i.size,i.bytes))=some (some (.int .u8 0),1,1):=by kernel_rfl
set_option maxHeartbeats 4000000 in
theorem recPut_own (p:Option Addr) (n c:Nat) (rs:List (List UInt8 × List UInt8)) (w:World) (hm:n≤1000000000) (h:RecsAt w p n rs) (hsz:∀ r ∈ rs,r.1.length+r.2.length≤1000000000000) (hN:Need w) :
 Calls Tryz.prog 59 #[.slice p n c] w (PutsOwn rs w):=by
 have H:=Lib.hid h;have HRL:=Lib.hid h.1;have HSZ:=Lib.hid hsz;have HT:=Lib.hid hN;obtain ⟨i0,hi,hz0,hz1,hz2⟩:=info_parts infoOctR;have HI:=Lib.hid hi;have HZ0:=Lib.hid hz0;have HZ1:=Lib.hid hz1;have HZ2:=Lib.hid hz2;have HM:=Lib.hid hm;have hmi:(n:Int)≤1000000000:=by omega
 clear h hsz hN hi hz0 hz1 hz2 hm
 go_enter Tryz.func59,Tryz.ntmps59
 go_wp2_with fail
 go_loopw [4,11] (fun o i wr => ∃ (j:Nat),j≤n∧i=.int .i64 (j:Int)∧Hid (wr.ownsRow w.heap.size 5 1 o (linesD (rs.take j)).length ((nums (linesD (rs.take j))).map (Value.int .u8)))∧Hid (∀ r ∈ rs.take j,mayD r.1 r.2=true)∧Hid (Below w.heap.size w wr)) (fun _ i _ => n - (RowKit.intOf i).toNat)
 case atStart => exact ⟨0,Nat.zero_le _,rfl,Lib.hid (World.ownsRow_nil _ _ _ _),Lib.hid (by simp),Lib.hid (Below.refl _ _)⟩
 case round =>
  obtain ⟨j,hj,rfl,hown,hall,hB⟩:=hrel
  by_cases hlt:j < n
  ·obtain ⟨b1,o1,rfl,hb1,hc1⟩:=(H.out.below hB.out).2 (by omega)
   obtain ⟨x0,x1⟩:=hc1 j hlt;obtain ⟨u,hu⟩:∃ u,rs.getD j ([],[])=u:=⟨_,rfl⟩;rw [hu,Nat.mul_comm] at x0 x1;have HU:=Lib.hid hu;have HMEM:Hid (u ∈ rs):=Lib.hid (by rw [← hu];exact getD_mem rs j (by rw [HRL.out];exact hlt))
   have hltz:(j:Int) < (n:Int):=by omega
   have HKV:=Lib.hid (HSZ.out u HMEM.out);have HBA:Hid (Below w.heap.size w (wr.alloc (.cells #[.string (str u.1),.string (str u.2)] 37))):=Lib.hid (hB.out.alloc hB.out.size _);have HJ:=Lib.hid hlt;have HBW:Hid (Below wr.heap.size wr (wr.alloc (.cells #[.string (str u.1),.string (str u.2)] 37))):=Lib.hid ((Below.refl _ _).alloc (Nat.le_refl _) _);clear hc1 hu hb1
   cases hmay:mayD u.1 u.2 with
   | false =>
     have HLN:=Lib.hid (fun w1 h1 => recLine_no u.1 u.2 w1 hmay HKV.out h1)
     have HNO:Hid (∃ r ∈ rs,mayD r.1 r.2=false):=Lib.hid ⟨u,HMEM.out,hmay⟩;clear hmay
     go_wp2_with fail
     refine (HLN.out _ (HT.out.below HBA.out)).mono ?_
     rintro e w1 ⟨rfl,hb2⟩;have HB2:=Lib.hid (HBA.out.trans (hb2.mono HBA.out.size));clear hb2
     go_wp2
     go_ret2
     refine ⟨fun h => ?_,fun _ => rfl,HB2.out⟩
     obtain ⟨r,hr,hr2⟩:=HNO.out;rw [h r hr] at hr2
     cases hr2
   | true =>
     have HLN:=Lib.hid (fun w1 h1 => recLine_yes u.1 u.2 w1 hmay HKV.out h1)
     obtain ⟨L,hL⟩:∃ L,str (lineD u.1 u.2)=L:=⟨_,rfl⟩;have HL:=Lib.hid hL;have HLS:Hid (L.size=(lineD u.1 u.2).length):=Lib.hid (by rw [← hL,str_size])
     have HAL:Hid (∀ r ∈ rs.take (j+1),mayD r.1 r.2=true):=Lib.hid (take_all rs j (by rw [HRL.out];exact hlt) _ hall.out (by rw [HU.out];exact hmay))
     have HNX:Hid (linesD (rs.take (j+1))=linesD (rs.take j)++lineD u.1 u.2):=Lib.hid (by rw [lines_take rs j (by rw [HRL.out];exact hlt),HU.out])
     have HBND:Hid ((linesD (rs.take j)).length+L.size≤140737488351232):=Lib.hid (by
      have h1:=lines_len _ HAL.out;rw [HNX.out,List.length_append,List.length_take] at h1;have:=HM.out;have:=HLS.out;have:min (j+1) rs.length≤1000000000:=by omega
      omega)
     clear hmay
     go_wp2_with fail
     refine (HLN.out _ (HT.out.below HBA.out)).mono ?_
     rw [hL];rintro e w1 ⟨rfl,hb2⟩;have HB2:=Lib.hid (HBA.out.trans (hb2.mono HBA.out.size));have HOW1:=Lib.hid (row_below hown.out (HBW.out.trans (hb2.mono HBW.out.size)));clear hb2 hL
     go_wp2_with (at_builtin;refine wpList_append_own_string _ rfl _ _ 24 9 rfl w.heap.size 5 i0 Tryz.underlying24 Tryz.underlying9 HI.out HZ0.out HZ1.out HZ2.out _ _ _ rfl HOW1.out L rfl (by have:=HBND.out;unfold maxLen;omega) (by have:=HBND.out;omega) HB2.out.size ?_)
     intro v' w2 hown' hgrow _
     have HOWN:Hid (w2.ownsRow w.heap.size 5 1 v' (linesD (rs.take (j+1))).length ((nums (linesD (rs.take (j+1)))).map (Value.int .u8))):=Lib.hid (by
      rw [HNX.out,List.length_append,← HLS.out,nums_app,List.map_append,← strCells_str (lineD u.1 u.2),HL.out]
      exact hown')
     have HBW2:Hid (Below w.heap.size w w2):=Lib.hid (HB2.out.grown hgrow HB2.out.size (fun b hb => by
      rcases HOW1.out.2 with ⟨rfl,_⟩ | ⟨g,cap,cur,rfl,hb2,_⟩
      ·cases hb
      ·cases hb;exact hb2))
     clear hown' hgrow
     go_wp2_with fail
     go_roundw
     case rel => exact ⟨j+1,by omega,by go_num,HOWN,HAL,HBW2⟩
     case measure => simp [RowKit.intOf];omega
  ·have hks:¬ ((j:Int) < (n:Int)):=by omega
   have HTK:Hid (rs.take j=rs):=Lib.hid (List.take_of_length_le (by rw [HRL.out];omega))
   have hown2:=hown.out;have hall2:=hall.out;rw [HTK.out] at hown2 hall2;obtain ⟨q,cq,rfl,h1,h2,h3,h4⟩:=bat_of_own hown2 (nums_bd _)
   have hpl:∀ x,q=some x → w.heap.size≤x.block:=fun x hx => by
    rcases hown2.2 with ⟨h,_⟩ | ⟨g,cap,cur,h,hb,_⟩
    ·simp only [Value.slice.injEq] at h
     rw [h.1] at hx
     cases hx
    ·simp only [Value.slice.injEq] at h
     rw [h.1] at hx
     cases hx
     exact hb
   have HPL:=Lib.hid hpl;clear hpl;rw [bytesOf_nums] at h3;have H3:=Lib.hid (And.intro h1 (And.intro h2 h3));have HAL:=Lib.hid hall2;clear h1 h2 h3 h4 hown2 hall2
   go_wp2
   go_ret2
   refine ⟨fun _ => ⟨q,cq,rfl,H3.out.1,H3.out.2.1,H3.out.2.2,HPL.out⟩,fun hx => ?_,hB.out⟩
   obtain ⟨r,hr,hr2⟩:=hx;rw [HAL.out r hr] at hr2
   cases hr2
theorem cutD_le {l t:List UInt8} {m:Nat} (h:cutD l=some (t,m)):m≤l.length∧0 < m∧t.length≤l.length:=by
 unfold cutD at h
 split at h
 ·cases h
 ·split at h
  ·cases h
  ·split at h
   ·cases h
   ·cases h
    refine ⟨by omega,by omega,?_⟩
    rw [List.length_take,List.length_drop];omega
theorem recCutP_any (p:Option Addr) (n c:Nat) (bs:List UInt8) (w:World) (h0:0 < n) (hn:bs.length=n) (hc:n≤c) (hm:n≤1000000000000) (h:BAt w p n bs) (hN:Need w) :
 Calls Tryz.prog 107 #[.slice p n c] w fun e w' => e=.returned (cutAns (cutD bs))∧Below w.heap.size w w':=by
 obtain ⟨b,o,rfl,hcell⟩:=h h0;exact recCut_any b o n c bs w hn hc hm h hN
set_option maxHeartbeats 8000000 in
theorem recParse_any (p0:Option Addr) (n0 c0:Nat) (bs:List UInt8) (w:World) (hn:bs.length=n0) (hc:n0≤c0) (hm:n0≤1000000000000) (h:BAt w p0 n0 bs) (hN:Need w) :
 Calls Tryz.prog 81 #[.slice p0 n0 c0] w (RecsPost 5 9 bs w):=by
 have H:=Lib.hid h;have HT:=Lib.hid hN;have HN:=Lib.hid hn;have HN0:=Lib.hid hm;have HC0:=Lib.hid hc;obtain ⟨i0,hi,hz0,hz1,hz2⟩:=info_parts infoRec;have HI:=Lib.hid hi;have HZ0:=Lib.hid hz0;have HZ1:=Lib.hid hz1;have HZ2:=Lib.hid hz2;clear h hn hi hz0 hz1 hz2 hN hm hc
 go_enter Tryz.func81,Tryz.ntmps81
 go_wp2_with fail
 go_loopw [0,4] (fun b o wr => ∃ (l:List UInt8) (p:Option Addr) (n c:Nat) (acc:List (List UInt8 × List UInt8)),b=.slice p n c∧n≤c∧Hid (l.length=n)∧Hid (BAt w p n l)∧Hid (wr.ownsRow w.heap.size 37 2 o acc.length (flatR acc))∧Hid (recsFrom 5 9 l acc=recsD 5 9 bs)∧Hid (acc.length+n≤n0)∧Hid (Below w.heap.size w wr)) (fun b _ _ => match b with | .slice _ n _ => n | _ => 0)
 case atStart => exact ⟨bs,p0,n0,c0,[],rfl,HC0.out,HN,H,Lib.hid (World.ownsRow_nil _ _ _ _),Lib.hid rfl,Lib.hid (by simp),Lib.hid (Below.refl _ _)⟩
 case round =>
  obtain ⟨l,p,n,c,acc,rfl,hcc,hln,hbt,hown,hr,hlen,hB⟩:=hrel
  by_cases hl0:n=0
  ·subst hl0
   have hl:l=[]:=List.length_eq_zero_iff.1 hln.out;have hG:Hid (recsD 5 9 bs=(acc,0)):=Lib.hid (by rw [← hr.out,hl,recsFrom_nil])
   obtain ⟨q,cq,rfl,h1,h2,h3⟩:=recs_own hown.out;have H3:=Lib.hid (And.intro h1 (And.intro h2 h3));clear hl h1 h2 h3
   go_wp2
   go_ret2
   refine ⟨q,cq,by rw [hG.out];rfl,?_,H3.out.2.1,?_,hB.out⟩
   ·rw [hG.out];exact H3.out.1
   ·rw [hG.out];exact H3.out.2.2
  ·have hpos:(0:Int) < (n:Int):=by omega
   have HPOS:Hid (0 < n):=Lib.hid (by omega)
   have HNE:Hid (l≠[]):=Lib.hid (fun e => by have:=hln.out;rw [e] at this;exact hl0 (by simpa using this.symm))
   have hsm:(n:Int)≤1000000000000:=by have:=hlen.out;have:=HN0.out;omega
   have HG:Hid (∀ er,recStep 5 9 l=.error er → recsD 5 9 bs=([],er)):=Lib.hid (fun er he => by rw [← hr.out,recsFrom_step 5 9 l HNE.out,he])
   have HCUT:=Lib.hid (fun w1 h1 h2 => recCutP_any p n c l w1 HPOS.out hln.out hcc (by omega) h1 h2)
   have HRS:=Lib.hid (recStep_cutD 5 9 l);clear hl0
   cases hcut:cutD l with
   | none =>
     rw [hcut] at HCUT HRS;have E:Hid (recsD 5 9 bs=([],5)):=Lib.hid (HG.out 5 HRS.out);clear hcut
     go_wp2_with fail
     refine (HCUT.out _ (hbt.out.below hB.out) (HT.out.below hB.out)).mono ?_
     unfold cutAns;rintro e w1 ⟨rfl,hb1⟩;have HB1:=Lib.hid (hB.out.trans (hb1.mono hB.out.size));clear hb1
     go_wp2
     go_ret2
     exact recs_err 5 9 bs w _ 5 E.out HB1.out
   | some x =>
     obtain ⟨t,m⟩:=x;obtain ⟨hml,hm0,htl⟩:=cutD_le hcut;rw [hcut] at HCUT HRS;have HML:Hid (m≤n∧0 < m):=Lib.hid (by have:=hln.out;omega)
     have hmn:(m:Int)≤(n:Int):=by have:=HML.out;omega
     have hmpos:(0:Int) < (m:Int):=by omega
     have htl2:t.length≤1000000000000:=by have:=hln.out;omega
     have HTL:=Lib.hid htl2;have HQ:=Lib.hid (fun w1 => cutQ_any t w1 HTL.out)
     have HRT:=Lib.hid (fun w1 h1 => recRight_any t w1 HTL.out h1)
     clear hcut hml hm0 htl htl2
     by_cases hq:Lib.indexByte t 61 < 1
     ·have E:Hid (recsD 5 9 bs=([],5)):=Lib.hid (HG.out 5 (by
       rw [HRS.out];simp only
       rw [if_pos hq]))
      by_cases hq0:0≤Lib.indexByte t 61
      ·have hz:Lib.indexByte t 61=0:=by omega
       have HQ2:Hid (∀ w,Calls Tryz.prog 108 #[.string (str t),.string ⟨#[61]⟩] w fun e w' => e=.returned (.tuple #[.string ⟨#[]⟩,.string (str (t.drop 1)),.bool true]) ∧ ∃ n,w'=w.drewN n):=Lib.hid (fun w1 => by
        have:=HQ.out w1;unfold cutQ at this;rw [if_pos hq0,hz] at this
        exact this)
       clear hq hq0 hz
       go_wp2_with fail
       refine (HCUT.out _ (hbt.out.below hB.out) (HT.out.below hB.out)).mono ?_
       unfold cutAns;rintro e w1 ⟨rfl,hb1⟩;have HB1:=Lib.hid (hB.out.trans (hb1.mono hB.out.size));clear hb1
       go_wp2_with fail
       refine (HQ2.out _).mono ?_
       rintro e w2 ⟨rfl,nd,rfl⟩;have HB2:=Lib.hid (below_drewN HB1.out nd)
       go_wp2
       go_ret2
       exact recs_err 5 9 bs w _ 5 E.out HB2.out
      ·have HQ2:Hid (∀ w,Calls Tryz.prog 108 #[.string (str t),.string ⟨#[61]⟩] w fun e w' => e=.returned (.tuple #[.string (str t),.string (str []),.bool false]) ∧ ∃ n,w'=w.drewN n):=Lib.hid (fun w1 => by
        have:=HQ.out w1;unfold cutQ at this;rw [if_neg hq0] at this
        exact this)
       clear hq hq0
       go_wp2_with fail
       refine (HCUT.out _ (hbt.out.below hB.out) (HT.out.below hB.out)).mono ?_
       unfold cutAns;rintro e w1 ⟨rfl,hb1⟩;have HB1:=Lib.hid (hB.out.trans (hb1.mono hB.out.size));clear hb1
       go_wp2_with fail
       refine (HQ2.out _).mono ?_
       rintro e w2 ⟨rfl,nd,rfl⟩;have HB2:=Lib.hid (below_drewN HB1.out nd)
       go_wp2
       go_ret2
       exact recs_err 5 9 bs w _ 5 E.out HB2.out
     ·obtain ⟨k,hk⟩:∃ k:Nat,Lib.indexByte t 61=k:=⟨(Lib.indexByte t 61).toNat,by omega⟩
      obtain ⟨kk,hkk⟩:∃ kk,t.take k=kk:=⟨_,rfl⟩;obtain ⟨vv,hvv⟩:∃ vv,t.drop (k+1)=vv:=⟨_,rfl⟩;have hkl:=(List.getElem?_eq_some_iff.1 (Lib.indexByte_some hk).1).1
      have hkne:(str kk).toList.isEmpty=false:=by
       rw [str_empty,decide_eq_false_iff_not,← hkk];intro e;have:=congrArg List.length e;rw [List.length_take,List.length_nil] at this;omega
      have HQ2:Hid (∀ w,Calls Tryz.prog 108 #[.string (str t),.string ⟨#[61]⟩] w fun e w' => e=.returned (.tuple #[.string (str kk),.string (str vv),.bool true]) ∧ ∃ n,w'=w.drewN n):=Lib.hid (fun w1 => by
       have:=HQ.out w1;unfold cutQ at this;rw [if_pos (by omega),hk,Int.toNat_natCast] at this
       simp only [hkk,hvv] at this
       exact this)
      cases ht:textD t with
      | false =>
        rw [ht] at HRT
        have E:Hid (recsD 5 9 bs=([],9)):=Lib.hid (HG.out 9 (by
         rw [HRS.out];simp only
         rw [if_neg hq,if_pos ht]))
        clear hq hk hkk hvv ht hkl
        go_wp2_with fail
        refine (HCUT.out _ (hbt.out.below hB.out) (HT.out.below hB.out)).mono ?_
        unfold cutAns;rintro e w1 ⟨rfl,hb1⟩;have HB1:=Lib.hid (hB.out.trans (hb1.mono hB.out.size));clear hb1
        go_wp2_with fail
        refine (HQ2.out _).mono ?_
        rintro e w2 ⟨rfl,nd,rfl⟩;have HB2:=Lib.hid (below_drewN HB1.out nd)
        go_wp2_with fail
        refine (HRT.out _ (HT.out.below HB2.out).tabs).mono ?_
        rintro e w3 ⟨rfl,hb3⟩;have HB3:=Lib.hid (HB2.out.trans (hb3.mono HB2.out.size));clear hb3
        go_wp2
        go_ret2
        exact recs_err 5 9 bs w _ 9 E.out HB3.out
      | true =>
        rw [ht] at HRT
        have HST:Hid (recsFrom 5 9 (l.drop m) (acc++[(kk,vv)])=recsD 5 9 bs):=Lib.hid (by
         rw [← hr.out,recsFrom_step 5 9 l HNE.out,HRS.out];simp only;rw [if_neg hq,if_neg (by rw [ht];simp),hk,Int.toNat_natCast]
         simp only [hkk,hvv])
        have HBT2:Hid (BAt w (if c=m then p else p.map (·.add m)) (n - m) (l.drop m)):=Lib.hid (hbt.out.drop HML.out.1 hcc hln.out)
        have HLD:Hid ((l.drop m).length=n - m):=Lib.hid (by rw [List.length_drop,hln.out])
        clear hq hk hkk hvv ht hkl
        go_wp2_with fail
        refine (HCUT.out _ (hbt.out.below hB.out) (HT.out.below hB.out)).mono ?_
        unfold cutAns;rintro e w1 ⟨rfl,hb1⟩;have HB1:=Lib.hid (hB.out.trans (hb1.mono hB.out.size));have HO1:=Lib.hid (row_below hown.out hb1);clear hb1
        go_wp2_with fail
        refine (HQ2.out _).mono ?_
        rintro e w2 ⟨rfl,nd,rfl⟩;have HB2:=Lib.hid (below_drewN HB1.out nd);have HO2:=Lib.hid (row_below HO1.out (below_drewN (Below.refl w1.heap.size w1) nd))
        go_wp2_with fail
        refine (HRT.out _ (HT.out.below HB2.out).tabs).mono ?_
        rintro e w3 ⟨rfl,hb3⟩;have HB3:=Lib.hid (HB2.out.trans (hb3.mono HB2.out.size));have HO3:=Lib.hid (row_below HO2.out hb3);clear hb3;have HOWN:Hid (World.ownsRow (w3.alloc (.cells #[.string (str kk),.string (str vv)] 37)) w.heap.size 37 2 u4 acc.length (flatR acc)):=Lib.hid (HO3.out.alloc _);have HBD:Hid (Below w.heap.size w (w3.alloc (.cells #[.string (str kk),.string (str vv)] 37))):=Lib.hid (HB3.out.alloc HB3.out.size _)
        have HCL:Hid (∀ j u,([Value.string (str kk),.string (str vv)]:List Value)[j]? = some u → (w3.alloc (.cells #[.string (str kk),.string (str vv)] 37)).cell? ((⟨w3.heap.size,0,none⟩:Addr).add j)=some u):=Lib.hid (fun j u hj => by
         obtain ⟨g0,g1⟩:=cells2 w3 37 (.string (str kk)) (.string (str vv))
         match j,hj with
         | 0,hj => cases hj;exact g0
         | 1,hj => cases hj;exact g1
         | j+2,hj => simp at hj)
        have HAL:Hid (acc.length+1≤1000000000001):=Lib.hid (by have:=hlen.out;have:=HN0.out;omega)
        have HSZ1:Hid (w.heap.size≤(w3.alloc (.cells #[.string (str kk),.string (str vv)] 37)).heap.size):=Lib.hid HBD.out.size
        go_wp2_with (at_builtin;refine wpList_append_own _ rfl _ _ 106 rfl w.heap.size 37 i0 (.agg #[.string ⟨#[]⟩,.string ⟨#[]⟩]) 2 32 Tryz.underlying106 HI.out HZ0.out HZ1.out HZ2.out rfl (by decide) _ acc.length (flatR acc) rfl HOWN.out ⟨w3.heap.size,0,none⟩ 1 1 [.string (str kk),.string (str vv)] rfl rfl HCL.out (by
         intro u hu;rcases List.mem_cons.1 hu with rfl | hu
         ·rfl
         ·rcases List.mem_cons.1 hu with rfl | hu
          ·rfl
          ·(cases hu)) (by have:=HAL.out;unfold maxLen;omega) (by have:=HAL.out;omega) HSZ1.out ?_)
        intro v' w4 hown' hgrow _
        have HOW1:Hid (w4.ownsRow w.heap.size 37 2 v' (acc++[(kk,vv)]).length (flatR (acc++[(kk,vv)]))):=Lib.hid (by
         rw [flatR_snoc,List.length_append];exact hown')
        have HBW:Hid (Below w.heap.size w w4):=Lib.hid (HBD.out.grown hgrow HBD.out.size (fun b hb => by
         rcases HOWN.out.2 with ⟨rfl,_⟩ | ⟨g,cap,cur,rfl,hb2,_⟩
         ·cases hb
         ·cases hb;exact hb2))
        clear hown' hgrow
        go_wp2_with fail
        go_roundw
        case rel => exact ⟨l.drop m,_,n - m,c - m,acc++[(kk,vv)],rfl,by omega,HLD,HBT2,HOW1,HST,Lib.hid (by have h2:=hlen.out;have:=HML.out;rw [List.length_append];simp only [List.length_cons,List.length_nil];omega),HBW⟩
        case measure => have:=HML.out;simp;omega
end Go.Proofs.YtnpkcneojilmkaaGreatDoor.Rec
end
section
namespace Go.Proofs.YtnpkcneojilmkaaGreatDoor.Wr
open Go.ChangeShapes Go.WideShapes Go.ChangeAt Go.RowKit Base Byt Txt Bk Hp Head Rec Mem Block Go.Lib
set_option linter.unusedVariables false
set_option maxRecDepth 100000
theorem own8_ne {w:World} {B n b:Nat} {v:Value} {bs:List UInt8} {t:TypeId} {cs:Array Value} (ho:OwnB w B v n bs) (hb:Blk w b t cs) (ht:t≠5):v.ownBlock≠some b:=fun e => by
 rcases ho.2 with ⟨rfl,_⟩ | ⟨g,cap,cur,rfl,_,hg,_⟩
 ·cases e
 ·have hgb:g=b:=by simpa [Value.ownBlock] using e
  subst hgb;unfold Blk at hb;rw [hb] at hg;simp only [Option.some.injEq,Obj.cells.injEq] at hg;exact ht hg.2.1
theorem padB_is (l:List UInt8):padB l=l++zerosTo l.length:=rfl
theorem put_after {w w2 w':World} {g B:Nat} {v:Value} {X xs:List UInt8} {e:Ending} (hk:Kept noneB w w2) (h:PutPost w2 g B v X xs e w'):PutPost w g B v X xs e w':=by
 obtain ⟨v',he,h1,h2,h3⟩:=h;exact ⟨v',he,h1,(hk.of_none _).trans h2,fun k hk' => (h3 k hk').imp id (Nat.le_trans hk.size)⟩
structure Laid (w:World) (g B:Nat) (v:Value) (wx:World) (v':Value) (Y:List UInt8):Prop where
 snk:Snk wx g B v' Y
 kept:Kept (putB g v) w wx
 new:NewOr w v v'
section
variable {w wx wy:World} {g B:Nat} {v v':Value} {X Y xs:List UInt8}
theorem Laid.start (h:Snk w g B v X):Laid w g B v w v X:=⟨h,Kept.refl _ _,NewOr.refl _ _⟩
theorem Laid.after (h:Laid w g B v wx v' Y) (hk:Kept noneB wx wy):Laid w g B v wy v' Y:=⟨h.snk.kept hk id (fun _ _ => id),h.kept.trans (hk.of_none _),h.new⟩
theorem Laid.step {e:Ending} (h:Laid w g B v wx v' Y) (hp:PutPost wx g B v' Y xs e wy):∃ v'',e=.returned (.tuple #[])∧Laid w g B v wy v'' (Y++xs)∧Kept (putB g v') wx wy∧NewOr wx v' v'':=by
 obtain ⟨u,he,h1,h2,h3⟩:=hp;refine ⟨u,he,⟨h1,h.kept.then h2 (fun i hi => ?_),h.new.trans h3 h.kept.size⟩,h2,h3⟩
 rcases hi with hi | hi
 ·exact .inr (.inl hi)
 ·rcases h.new i hi with h4 | h4
  ·exact .inr (.inr h4)
  ·exact .inl h4
theorem Laid.blk (h:Laid w g B v wx v' Y) (hk:Kept (putB g v') wx wy) {b:Nat} {t:TypeId} {cs:Array Value} (hb:Blk wx b t cs) (h8:t≠5) (hS:b≠g):Blk wy b t cs:=
 hb.keptS hk (fun e => by
  rcases e with e | e
  ·exact hS e
  ·exact own8_ne h.snk.own hb h8 e)
theorem Laid.post {e:Ending} (h:Laid w g B v wx v' (X++Y)) (he:e=.returned (.tuple #[])):PutPost w g B v X Y e wx:=⟨v',he,h.snk,h.kept,h.new⟩
end
theorem sput1_any (w:World) (g B:Nat) (v:Value) (X:List UInt8) (h:Snk w g B v X) (hB:B≤w.heap.size) (q1:Option Addr) (m1 c1:Nat) (x1:List UInt8)
 (h1:BAt w q1 m1 x1) (l1:x1.length=m1) (o1:0 < m1 → ∀ x,q1=some x → v.ownBlock≠some x.block) (hsum:X.length+m1≤140737488351232) :
 Calls Tryz.prog 62 #[.pointer (some ⟨g,0,none⟩),.slice (some ⟨w.heap.size,0,none⟩) 1 1] (w.alloc (.cells #[.slice q1 m1 c1] 24)) (PutPost w g B v X x1):=by
 have hk:Kept noneB w (w.alloc (.cells #[.slice q1 m1 c1] 24)):=(Kept.refl _ w).alloc _;have hcat:=catB_one x1;rw [← hcat];refine (sput_any _ g B v X (h.kept hk id (fun _ _ => id)) (Nat.le_trans hB hk.size) _ 1 1 (fun _ => q1) (fun _ => m1) (fun _ => c1) (fun _ => x1) ?_ (by decide) ?_ ?_ ?_).mono ?_
 ·intro _
  refine ⟨w.heap.size,0,rfl,by simp,fun i hi => ?_⟩
  match i,hi with
  | 0,_ => exact ⟨by simp,h1.kept hk (fun _ _ _ => id),l1⟩
 ·intro _ x hx
  cases hx
  have h3:=h.lt;refine ⟨by show w.heap.size≠g;omega,fun e => ?_⟩
  have:w.heap.size < w.heap.size:=(h.own.lt _ e).2;omega
 ·intro i hi
  match i,hi with
  | 0,_ => exact o1
 ·rw [hcat,List.length_append,l1];omega
 ·rintro e w' h
  exact put_after hk h
set_option maxHeartbeats 1000000 in
theorem layHead_any (w:World) (g B:Nat) (v:Value) (X:List UInt8) (hs:Snk w g B v X) (hB:B≤w.heap.size) (h:HeadV) (hwf:∀ i,(Lit.int .i64 (numH h i)).wf=true) (hnl:h.name.length≤140737488351232) (hll:h.link.length≤140737488351232)
 (bs:List UInt8) (hp:putR h=some bs) (hl:bs.length=512) (hsum:X.length+512≤140737488351232) :
 Calls Tryz.prog 60 #[.pointer (some ⟨g,0,none⟩),.agg (headC h)] w (PutPost w g B v X bs):=by
 unfold headC;obtain ⟨W,hW⟩:∃ W,w.alloc (.cells #[.string (str h.name),.string (str h.link),.int .u8 (h.kind.toNat:Int),.int .i64 h.mode,.int .i64 h.uid,.int .i64 h.gid,.int .i64 h.time,.int .i64 h.size,.bool h.gnu] 41)=W:=⟨_,rfl⟩;have hK:Kept noneB w W:=by rw [← hW];exact (Kept.refl _ w).alloc _
 have hP:=putH_any h hwf hnl hll W;rw [hp] at hP;have HW:=Lib.hid hW;have HK:=Lib.hid hK;have HP:=Lib.hid hP;have HS:=Lib.hid hs;have HL:=Lib.hid hl;clear hW hK hP hs hl hp
 go_enter Tryz.func60,Tryz.ntmps60
 go_wp2_with fail
 rw [show w.alloc (.cells #[.string (str h.name),.string (str h.link),.int .u8 (h.kind.toNat:Int),.int .i64 h.mode,.int .i64 h.uid,.int .i64 h.gid,.int .i64 h.time,.int .i64 h.size,.bool h.gnu] 41)=W from HW.out]
 refine HP.out.mono ?_
 rintro e w2 ⟨hk2,(⟨bs',gx,hr,rfl,hrow,hge⟩ | ⟨hr,_⟩)⟩
 case inr => cases hr
 obtain rfl:bs=bs':=Option.some.inj hr;have hb:=hrow.bat;rw [HL.out] at hb;have HKK:=Lib.hid (HK.out.trans hk2)
 have HX:=Lib.hid (sput1_any w2 g B v X (HS.out.kept HKK.out id (fun _ _ => id)) (Nat.le_trans hB HKK.out.size) (some ⟨gx,0,none⟩) 512 512 bs hb HL.out (fun _ x hx e => by
  cases hx
  have h1:=(HS.out.own.lt _ e).2;have h2:gx < w.heap.size:=h1;have h3:=HK.out.size
  omega) (by omega))
 clear hr hk2 hrow hge hb
 go_wp2_with fail
 refine HX.out.mono ?_
 rintro e w3 h3;obtain ⟨v3,rfl,h4⟩:=put_after HKK.out h3;have H4:=Lib.hid h4;clear h3 h4
 go_wp2
 go_end0
 exact ⟨v3,rfl,H4.out⟩
end Go.Proofs.YtnpkcneojilmkaaGreatDoor.Wr
end
section
namespace Go.Proofs.YtnpkcneojilmkaaGreatDoor.Wr
open Go.ChangeShapes Go.WideShapes Go.ChangeAt Go.RowKit Base Byt Txt Bk Hp Head Rec Attr Mem Block Go.Lib
set_option linter.unusedVariables false
set_option maxRecDepth 100000
theorem recsM_small {m:MemV} (h:GoodM m):(recsM m).length≤5 ∧ ∀ r ∈ recsM m,r.1.length+r.2.length≤1000000000000:=by
 refine ⟨?_,fun r hr => by have:=(mayD_spec (recsM_may h r hr)).2.2.2.2;omega⟩
 have d:∀ (c:Prop) [Decidable c] (k v:List UInt8),(if c then [(k,v)] else []).length≤1:=fun c _ k v => by split<;>simp
 simp only [recsM,List.length_append];have d1:=d (longP m=true) (keyT 4) m.path;have d2:=d (longL m=true) (keyT 5) m.target;have d3:=d (2097151 < m.uid) (keyT 0) (decL m.uid.toNat);have d4:=d (2097151 < m.gid) (keyT 1) (decL m.gid.toNat);have d5:=d (8589934591 < m.time) (keyT 2) (decL m.time.toNat);omega
structure LI (w:World) (g B:Nat) (v:Value) (M:Array Value) (hb:Nat) (h:HeadV) (p:Option Addr) (bs:List UInt8) (wx:World) (v':Value) (Y:List UInt8):Prop where
 laid:Laid w g B v wx v' Y
 mem:Blk wx w.heap.size 26 M
 hd:Blk wx hb 41 (headC h)
 body:BAt wx p bs.length bs
 off:0 < bs.length → ∀ x,p=some x → v'.ownBlock≠some x.block
section
variable {w wx wy:World} {g B hb:Nat} {v v':Value} {M:Array Value} {h:HeadV} {p:Option Addr} {bs Y xs:List UInt8}
theorem LI.after (i:LI w g B v M hb h p bs wx v' Y) (hk:Kept noneB wx wy):LI w g B v M hb h p bs wy v' Y:=
 ⟨i.laid.after hk,i.mem.keptS hk id,i.hd.keptS hk id,i.body.kept hk (fun _ _ _ => id),i.off⟩
theorem LI.step {e:Ending} (i:LI w g B v M hb h p bs wx v' Y) (hg:g < w.heap.size) (hhb:w.heap.size≤hb) (hp:0 < bs.length → ∀ x,p=some x → x.block < w.heap.size∧v.ownBlock≠some x.block) (q:PutPost wx g B v' Y xs e wy) :
 ∃ v'',e=.returned (.tuple #[])∧LI w g B v M hb h p bs wy v'' (Y++xs)∧Kept (putB g v') wx wy∧NewOr wx v' v'':=by
 obtain ⟨v'',he,l,k,nw⟩:=i.laid.step q;refine ⟨v'',he,⟨l,i.laid.blk k i.mem (by decide) (by omega),i.laid.blk k i.hd (by decide) (by omega),i.body.kept k (fun h0 x hx e => ?_),fun h0 x hx e => ?_⟩,k,nw⟩
 ·rcases e with e | e
  ·exact bat_offSnk i.body i.laid.snk h0 x hx e
  ·exact i.off h0 x hx e
 ·rcases l.new _ e with e | e
  ·exact (hp h0 x hx).2 e
  ·have:=(hp h0 x hx).1
   omega
end
def LayCut (w:World) (g B:Nat) (v:Value) (X H:List UInt8) (M:Array Value) (hb:Nat) (m:MemV) (p:Option Addr) (wx:World):Prop:=
 ∃ v' Y,LI w g B v M hb (headM m) p m.body wx v' (X++Y)∧putM m=Y++(H++padB m.body)∧Y.length≤1100000
set_option maxHeartbeats 4000000 in
theorem lay_any (w:World) (g B:Nat) (v:Value) (X:List UInt8) (hs:Snk w g B v X) (hB:B≤w.heap.size) (m:MemV) (p:Option Addr) (c:Nat) (hg:GoodM m) (hb:BAt w p m.body.length m.body)
 (hoff:0 < m.body.length → ∀ x,p=some x → v.ownBlock≠some x.block) (hsum:X.length+4000000≤140737488351232) (hN:Need w) :
 Calls Tryz.prog 40 #[.pointer (some ⟨g,0,none⟩),.agg (memC m p c)] w (PutPost w g B v X (putM m)):=by
 obtain ⟨H,hpH,hlH,hcase⟩:=put_cases hg;obtain ⟨hrl,hrz⟩:=recsM_small hg;have hlm:=linesM_le hg;have hbm:=hg.body;have hglt:=hs.lt
 have hplt:0 < m.body.length → ∀ x,p=some x → x.block < w.heap.size∧v.ownBlock≠some x.block:=fun h0 x hx => ⟨by
  obtain ⟨b,o,he,hbw,_⟩:=hb.cell h0;rw [hx] at he
  cases he
  exact hbw,hoff h0 x hx⟩
 obtain ⟨bl,hbl⟩:∃ bl,m.body.length=bl:=⟨_,rfl⟩;obtain ⟨n,hn⟩:∃ n,(recsM m).length=n:=⟨_,rfl⟩;obtain ⟨W0,hW0⟩:∃ W0,w.alloc (.cells (memC m p c) 26)=W0:=⟨_,rfl⟩;have hK0:Kept noneB w W0:=by rw [← hW0];exact (Kept.refl _ w).alloc _
 have hM0:Blk W0 w.heap.size 26 (memC m p c):=by rw [← hW0];exact Blk.new w _ _
 have hSPL:=split_any m p c W0 hg (hN.below (hK0.below (Nat.le_refl _) (fun _ h => h.elim)))
 have hL0:Laid w g B v W0 v X:=(Laid.start hs).after hK0;have HPH:=Lib.hid (And.intro hpH hlH);have HCASE:=Lib.hid hcase;have HRL:=Lib.hid (And.intro hrl hrz);have HLM:=Lib.hid hlm;have HPLT:=Lib.hid hplt;have HGLT:=Lib.hid hglt;have HK0:=Lib.hid hK0;have HM0:=Lib.hid hM0;have HSPL:=Lib.hid hSPL;have HL0:=Lib.hid hL0;have HN:=Lib.hid hN;have HG:=Lib.hid hg;have HBAT:=Lib.hid hb;have HOFF:=Lib.hid hoff;have HW0:=Lib.hid hW0;have HBL:=Lib.hid hbl;have HNN:=Lib.hid hn;have HBB:=Lib.hid hB;have HBM:=Lib.hid hbm;unfold memC at HSPL HW0 ⊢;rw [hbl] at HSPL HW0 ⊢
 clear hpH hlH hcase hrl hrz hlm hplt hglt hK0 hM0 hSPL hL0 hN hg hb hoff hW0 hbl hn hB hbm hs
 go_enter Tryz.func40,Tryz.ntmps40
 go_wp2_with fail
 rw [HW0.out];refine HSPL.out.mono ?_
 rintro e w1 ⟨q,d,rfl,h1,h2,h3,h4⟩;rw [HNN.out] at h1 h3 ⊢;unfold headC;have HR:=Lib.hid (And.intro h1 (And.intro h2 h3));have HB1:=Lib.hid h4;clear h1 h2 h3 h4
 go_upto_if 15 with fail
 obtain ⟨w2,hw2⟩:∃ w2,w1.alloc (.cells #[.string (str (headM m).name),.string (str (headM m).link),.int .u8 ((headM m).kind.toNat:Int),.int .i64 (headM m).mode,.int .i64 (headM m).uid,.int .i64 (headM m).gid,.int .i64 (headM m).time,.int .i64 (headM m).size,.bool (headM m).gnu] 41)=w2:=⟨_,rfl⟩;have hk12:Kept noneB w1 w2:=by rw [← hw2];exact (Kept.refl _ w1).alloc _
 have hh2:Blk w2 w1.heap.size 41 (headC (headM m)):=by rw [← hw2];exact Blk.new w1 _ _
 have hk01:=Kept.of_below HB1.out noneB;have HSZ:Hid (w.heap.size≤w1.heap.size):=Lib.hid (Nat.le_trans HK0.out.size HB1.out.size);have HB2:Hid (Below w.heap.size w w2):=Lib.hid ((HK0.out.trans (hk01.trans hk12)).below (Nat.le_refl _) (fun _ h => h.elim))
 have HI2:Hid (LI w g B v (memC m p c) w1.heap.size (headM m) p m.body w2 v X):=Lib.hid ⟨(HL0.out.after hk01).after hk12,(HM0.out.keptS hk01 id).keptS hk12 id,hh2,HBAT.out.kept (HK0.out.trans (hk01.trans hk12)) (fun _ _ _ => id),HOFF.out⟩
 have HR2:Hid (RecsAt w2 q n (recsM m)):=Lib.hid (HR.out.2.2.below (hk12.below (Nat.le_refl _) (fun _ h => h.elim)))
 have HN2:=Lib.hid (HN.out.below HB2.out);rw [hw2];clear hw2 hk12 hh2 hk01
 go_cut [6] (fun _ wx => LayCut w g B v X H (memC m p c) w1.heap.size m p wx)
 case first =>
  rcases HCASE.out with ⟨hr,he⟩ | ⟨hr,Xh,x1,x2,he⟩
  ·have hz:¬ (0:Int) < (n:Int):=by have:=HNN.out;rw [hr] at this;simp at this;omega
   have HE:=Lib.hid he;clear hr he
   go_wp2
   go_meet
   exact ⟨v,[],by rw [List.append_nil];exact HI2.out,by rw [List.nil_append];exact HE.out,by simp⟩
  ·have hz:(0:Int) < (n:Int):=by
    have:=List.length_pos_iff.2 hr;rw [HNN.out] at this;omega
   have HE:=Lib.hid he;have HX1:=Lib.hid (And.intro x1 x2);clear hr he x1 x2
   go_wp2_with fail
   refine (recPut_own q n d (recsM m) w2 (by have:=HRL.out.1;rw [HNN.out] at this;omega) HR2.out HRL.out.2 HN2.out).mono ?_
   rintro e w3 ⟨hy,_,hb3⟩;obtain ⟨p3,c3,rfl,h31,h32,h33,h34⟩:=hy (recsM_may HG.out);obtain ⟨L,hL⟩:∃ L,(linesD (recsM m)).length=L:=⟨_,rfl⟩;have HLL:=Lib.hid hL;rw [hL] at h31 h33 HX1 HLM ⊢;have HP3:=Lib.hid (And.intro h33 h34);have HI3:=Lib.hid (HI2.out.after (Kept.of_below hb3 noneB));have HS3:Hid (w2.heap.size≤w3.heap.size):=Lib.hid hb3.size;have HB3:=Lib.hid (HB2.out.trans (hb3.mono HB2.out.size))
   have hH:Calls Tryz.prog 60 #[.pointer (some ⟨g,0,none⟩),.agg #[.string ⟨#[64,112,97,120]⟩,.string ⟨#[]⟩,.int .u8 120,.int .i64 0,.int .i64 0,.int .i64 0,.int .i64 0,.int .i64 (L:Int),.bool false]] w3 (PutPost w3 g B v X Xh):=
    layHead_any w3 g B v X HI3.out.laid.snk (Nat.le_trans HBB.out HB3.out.size) (paxH L) (paxH_wf HLM.out) (by show (4:Nat)≤_;decide) (by show (0:Nat)≤_;decide) Xh HX1.out.1 HX1.out.2 (by omega)
   have HH:=Lib.hid hH;clear hy hb3 hL h31 h32 h33 h34 hH
   go_wp2_with fail
   refine HH.out.mono ?_
   rintro e w4 h4;obtain ⟨v4,rfl,i4,k4,n4⟩:=HI3.out.step HGLT.out HSZ.out HPLT.out h4
   have hb4:BAt w4 p3 L (linesD (recsM m)):=HP3.out.1.kept k4 (fun h0 x hx e => by
    rcases e with e | e
    ·exact bat_offSnk HP3.out.1 HI3.out.laid.snk h0 x hx e
    ·have a1:=(HL0.out.snk.own.lt _ e).2
     have a2:=HP3.out.2 x hx;have a3:=HK0.out.size;have a4:=HB2.out.size;have a5:=HB1.out.size;have a6:=(HI2.out.laid.snk.own.lt _ e).2
     omega)
   have ho4:0 < L → ∀ x,p3=some x → v4.ownBlock≠some x.block:=fun h0 x hx e => by
    have a2:=HP3.out.2 x hx;obtain ⟨b,o,he,hbw,_⟩:=HP3.out.1.cell h0;rw [hx] at he
    cases he
    rcases n4 _ e with e | e
    ·have a6:=(HI2.out.laid.snk.own.lt _ e).2
     change w2.heap.size≤b at a2;change b < w2.heap.size at a6;omega
    ·change w3.heap.size≤b at e
     omega
   have HB4:=Lib.hid hb4;have HO4:=Lib.hid ho4;have HI4:=Lib.hid i4;have HS4:Hid (w3.heap.size≤w4.heap.size):=Lib.hid k4.size;clear h4 i4 k4 n4 hb4 ho4
   go_wp2_with fail
   refine (sbody_any w4 g B v4 (X++Xh) HI4.out.laid.snk (by have:=HBB.out;have:=HB3.out.size;have:=HS4.out;omega) p3 L c3 (linesD (recsM m)) HB4.out HLL.out HO4.out (by rw [List.length_append,HX1.out.2];have:=padN_le L;have:=HLM.out;omega)).mono ?_
   rintro e w5 h5;obtain ⟨v5,rfl,i5,_,_⟩:=HI4.out.step HGLT.out HSZ.out HPLT.out h5
   have HI5:Hid (LI w g B v (memC m p c) w1.heap.size (headM m) p m.body w5 v5 (X++(Xh++padB (linesD (recsM m))))):=Lib.hid (by
    rw [padB_is,HLL.out,← List.append_assoc]
    exact i5)
   clear h5 i5
   go_wp2
   go_meet
   refine ⟨v5,_,HI5.out,by rw [HE.out],?_⟩
   rw [List.length_append,padB_length,HX1.out.2,HLL.out];have:=(blocks_ge L).2;have:=HLM.out;omega
 case rest =>
  obtain ⟨v6,Y,i6,he,hy⟩:=hcut;have b9:=i6.hd;have z0:=b9.cell 0;have z1:=b9.cell 1;have z2:=b9.cell 2;have z3:=b9.cell 3;have z4:=b9.cell 4;have z5:=b9.cell 5;have z6:=b9.cell 6;have z7:=b9.cell 7;have z8:=b9.cell 8;simp only [headC,List.getElem?_toArray,List.getElem?_cons_zero,List.getElem?_cons_succ] at z0 z1 z2 z3 z4 z5 z6 z7 z8;have HI6:=Lib.hid i6;have HE:=Lib.hid he;have HYL:=Lib.hid hy;have HBC:Hid (B≤wc.heap.size):=Lib.hid (Nat.le_trans HBB.out i6.laid.kept.size);have hH:=layHead_any wc g B v6 (X++Y) i6.laid.snk HBC.out (headM m) (headM_wf HG.out) (headM_tx HG.out).1 (headM_tx HG.out).2 H HPH.out.1 HPH.out.2 (by rw [List.length_append];omega)
  unfold headC at hH;have HH:=Lib.hid hH;clear b9 i6 he hy hH
  go_wp2_with fail
  refine HH.out.mono ?_
  rintro e w7 h7;obtain ⟨v7,rfl,i7,k7,_⟩:=HI6.out.step HGLT.out HSZ.out HPLT.out h7;have y7:=i7.mem.cell 7;simp only [memC,List.getElem?_toArray,List.getElem?_cons_zero,List.getElem?_cons_succ] at y7;rw [HBL.out] at y7;have hbt:=i7.body;have hof:=i7.off;rw [HBL.out] at hbt hof;have HBT:=Lib.hid hbt;have HOF:=Lib.hid hof;have HI7:=Lib.hid i7;have HS7:Hid (wc.heap.size≤w7.heap.size):=Lib.hid k7.size;clear h7 i7 k7 z0 z1 z2 z3 z4 z5 z6 z7 z8 hbt hof
  go_wp2_with fail
  refine (sbody_any w7 g B v7 (X++Y++H) HI7.out.laid.snk (Nat.le_trans HBC.out HS7.out) p bl c m.body HBT.out HBL.out HOF.out (by rw [List.length_append,List.length_append,HPH.out.2];have:=padN_le bl;have:=HBM.out;have:=HBL.out;have:=HYL.out;omega)).mono ?_
  rintro e w8 h8;obtain ⟨v8,rfl,i8,_,_⟩:=HI7.out.step HGLT.out HSZ.out HPLT.out h8
  have HF:Hid (Laid w g B v w8 v8 (X++putM m)):=Lib.hid (by
   have:=i8.laid;rw [HE.out,padB_is,HBL.out];rw [show X++(Y++(H++(m.body++zerosTo bl)))=X++Y++H++(m.body++zerosTo bl) by simp only [List.append_assoc]]
   exact this)
  clear h8 i8 y7
  go_wp2
  go_end0
  exact ⟨v8,rfl,HF.out.snk,HF.out.kept,HF.out.new⟩
end Go.Proofs.YtnpkcneojilmkaaGreatDoor.Wr
end
