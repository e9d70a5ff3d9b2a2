/- Texts of this seat, merged: what the proof reaches. -/
import Derived.Test.YtnpkcneojilmkaaDoorWriteShortX15
import Derived.Shelf.Unicode.ValidAny
import Derived.Test.YtnpkcneojilmkaaDoorWriteShortX20
import Derived.Lib.ItoaNum
import Derived.Lib.LaidTab
import Derived.Deep.Draws
import Derived.Shelf.RegionOpenPlain
import Derived.Test.YtnpkcneojilmkaaDoorWriteShortX19
import Derived.Test.YtnpkcneojilmkaaDoorWriteShortX21
import Derived.Lib.AppendStr
section
namespace Go.Proofs.YtnpkcneojilmkaaDoor.Path
open Go.ChangeShapes Go.WideShapes Go.ChangeAt Go.RowKit Go.Shelf Base Byt Txt Go.Lib Num
set_option linter.unusedVariables false
set_option maxRecDepth 100000
theorem right_any (l:List UInt8) (w:World) (hm:l.length≤1000000000000) (hT:Tabs w) :
 Calls Tryd.prog 55 #[.string (str l)] w fun e w' => e=.returned (.bool (textD l))∧Below w.heap.size w w':=by
 have hV:=Any.utf8_ValidString Tryd.laysValid (str l) w (by rw [str_size];omega) hT
 have hC:=fun w => Any.strings_Contains_one Tryd.laysConts (str l) 0 w
 rw [str_data] at hV;simp only [str_data,index_has] at hC;rw [text_valid];have mixed:Tryd.prog.follows .mixedOrders=true:=by kernel_rfl
 clear hT hm
 cases hv:Lib.validD l with
 | false =>
   rw [hv] at hV;clear hC
   go_enter Tryd.func55,Tryd.ntmps55
   go_wp2_with (go_at_call 72;refine hV.mono ?_;rintro e w1 ⟨rfl,hb⟩)
   go_ret
   exact ⟨rfl,hb⟩
 | true =>
   rw [hv] at hV
   cases hc:l.contains 0 with
   | false =>
     rw [hc] at hC
     go_enter Tryd.func55,Tryd.ntmps55
     go_wp2_with (first | (go_at_call 72;refine hV.mono ?_;rintro e w1 ⟨rfl,hb⟩) | (go_at_call 64;refine (hC _).mono ?_;rintro e w2 ⟨rfl,rfl⟩))
     go_ret
     exact ⟨rfl,hb⟩
   | true =>
     rw [hc] at hC
     go_enter Tryd.func55,Tryd.ntmps55
     go_wp2_with (first | (go_at_call 72;refine hV.mono ?_;rintro e w1 ⟨rfl,hb⟩) | (go_at_call 64;refine (hC _).mono ?_;rintro e w2 ⟨rfl,rfl⟩))
     go_ret
     exact ⟨rfl,hb⟩
theorem target_any (l:List UInt8) (w:World) (hm:l.length≤1000000000000) (hT:Tabs w) :
 Calls Tryd.prog 60 #[.string (str l)] w fun e w' => e=.returned (.int .i64 (targetD 9 6 l))∧Below w.heap.size w w':=by
 have hR:=right_any l w hm hT;have hs:(str l).size=l.length:=str_size l;unfold targetD;clear hT
 cases ht:textD l with
 | false =>
   rw [ht] at hR;rw [if_pos rfl];clear hm hs
   go_enter Tryd.func60,Tryd.ntmps60
   go_wp2_with (go_at_call 55;refine hR.mono ?_;rintro e w1 ⟨rfl,hb⟩)
   go_ret
   exact ⟨rfl,hb⟩
 | true =>
   rw [ht] at hR;rw [if_neg (by simp)]
   obtain ⟨n,hn⟩:∃ n,(str l).size=n:=⟨_,rfl⟩
   by_cases h:l=[] ∨ 200 < l.length
   ·have hi:inB (n:Int) 1 200=false:=by
     refine inB_false ?_
     rw [← hn,hs];rcases h with rfl | h
     ·simp
     ·omega
    rw [if_pos h];clear hm hs h
    go_enter Tryd.func60,Tryd.ntmps60
    go_wp2_with (first | (go_at_call 55;refine hR.mono ?_;rintro e w1 ⟨rfl,hb⟩) | (go_at_call 59;refine (in_any _ _ _ _).mono ?_;rw [hi];rintro e w2 ⟨rfl,rfl⟩))
    go_ret
    exact ⟨rfl,hb⟩
   ·have hi:inB (n:Int) 1 200=true:=by
     have:0 < l.length:=List.length_pos_iff.2 fun e => h (.inl e)
     exact inB_true (by omega) (by omega)
    rw [if_neg h];clear hm hs h
    go_enter Tryd.func60,Tryd.ntmps60
    go_wp2_with (first | (go_at_call 55;refine hR.mono ?_;rintro e w1 ⟨rfl,hb⟩) | (go_at_call 59;refine (in_any _ _ _ _).mono ?_;rw [hi];rintro e w2 ⟨rfl,rfl⟩))
    go_ret
    exact ⟨rfl,hb⟩
end Go.Proofs.YtnpkcneojilmkaaDoor.Path
end
section
namespace Go.Proofs.YtnpkcneojilmkaaDoor.Rec
open Go.ChangeShapes Go.WideShapes Go.ChangeAt Go.RowKit Go.Shelf Base Byt Txt Path Go.Lib
set_option linter.unusedVariables false
set_option maxRecDepth 100000
theorem recRight_any (l:List UInt8) (w:World) (hm:l.length≤1000000000000) (hT:Tabs w) :
 Calls Tryd.prog 77 #[.string (str l)] w fun e w' => e=.returned (.bool (textD l))∧Below w.heap.size w w':=by
 have hT1:=target_any l w hm hT;obtain ⟨r,hr⟩:∃ r,targetD 9 6 l=r:=⟨_,rfl⟩
 have hne:(r != 9)=textD l:=by
  rw [← hr];unfold targetD
  cases textD l with
  | false => rfl
  | true =>
    rw [if_neg (by simp)]
    split<;>rfl
 rw [hr] at hT1;clear hT hm hr
 cases ht:textD l with
 | false =>
   rw [ht] at hne
   go_enter Tryd.func77,Tryd.ntmps77
   go_wp2_with (go_at_call 60;refine hT1.mono ?_;rintro e w1 ⟨rfl,hb⟩)
   go_ret
   exact ⟨rfl,hb⟩
 | true =>
   rw [ht] at hne
   go_enter Tryd.func77,Tryd.ntmps77
   go_wp2_with (go_at_call 60;refine hT1.mono ?_;rintro e w1 ⟨rfl,hb⟩)
   go_ret
   exact ⟨rfl,hb⟩
theorem recMayBe_any (k v:List UInt8) (w:World) (hk:k.length≤1000000000000) (hv:v.length≤1000000000000) (hN:Need w) :
 Calls Tryd.prog 62 #[.agg #[.string (str k),.string (str v)]] w fun e w' => e=.returned (.bool (mayD k v))∧Below w.heap.size w w':=by
 obtain ⟨a,ha⟩:∃ a,a=str k:=⟨_,rfl⟩;obtain ⟨b,hb⟩:∃ b,b=str v:=⟨_,rfl⟩;have HZ:Hid (a.size=k.length∧b.size=v.length):=Lib.hid ⟨by rw [ha,str_size],by rw [hb,str_size]⟩
 have ha1:(a.size:Int)≤1000000000000:=by have:=HZ.out;omega
 have hb1:(b.size:Int)≤1000000000000:=by have:=HZ.out;omega
 obtain ⟨M,hM⟩:∃ M,mayD k v=M:=⟨_,rfl⟩;have HM:=Lib.hid hM;rw [hM];obtain ⟨c0,c1⟩:=cells2 w 52 (.string a) (.string b);have HA:Hid (Below w.heap.size w (w.alloc (.cells #[.string a,.string b] 52))):=Lib.hid ((Below.refl _ _).alloc (Nat.le_refl _) _);have HT:=Lib.hid hN.tabs;have hC:=fun w => Any.strings_Contains_one Tryd.laysConts a 61 w
 have hRa:=fun w1 h => recRight_any k w1 hk h
 have hRb:=fun w1 h => recRight_any v w1 hv h
 rw [← ha] at hRa;rw [← hb] at hRb
 have hi:∀ w,Calls Tryd.prog 64 #[.string a,.string ⟨#[61]⟩] w fun e w' => e=.returned (.bool (k.contains 61))∧w'=w:=by
  intro w;have:=hC w
  rwa [show a.data.toList=k by rw [ha,str_data],index_has] at this
 have HRA:=Lib.hid hRa;have HRB:=Lib.hid hRb;have HC:=Lib.hid hi;have he:a.toList.isEmpty=k.isEmpty:=by rw [ha,str_toList]
 rw [← ha,← hb];clear hM hN hC hi hRa hRb ha hb
 by_cases h1:k=[]
 ·obtain rfl:false=M:=by rw [← HM.out,h1];rfl
  have h1b:a.toList.isEmpty=true:=by rw [he,h1];rfl
  clear h1 he hk hv
  go_enter Tryd.func62,Tryd.ntmps62
  go_wp2
  go_ret
  exact ⟨rfl,HA.out⟩
 ·have hke:k.isEmpty=false:=by
   cases h:k with
   | nil => exact absurd h h1
   | cons _ _ => rfl
  have h1b:a.toList.isEmpty=false:=by rw [he,hke]
  cases h2:k.contains 61 with
  | true =>
    obtain rfl:false=M:=by rw [← HM.out];unfold mayD;rw [h2];rfl
    rw [h2] at HC;clear h1 he hk hv hke
    go_enter Tryd.func62,Tryd.ntmps62
    go_wp2_with fail
    refine (HC.out _).mono ?_
    rintro e w' ⟨rfl,rfl⟩
    go_wp2
    go_ret
    exact ⟨rfl,HA.out⟩
  | false =>
    rw [h2] at HC
    have HMM:Hid ((textD k && textD v && decide (k.length+v.length≤100000))=M):=Lib.hid (by
     have:=HM.out;simp only [mayD,h2,hke,Bool.not_false,Bool.true_and] at this
     exact this)
    cases ht:textD k with
    | false =>
      obtain rfl:false=M:=by rw [← HMM.out,ht];rfl
      rw [ht] at HRA;clear h1 he hk hv hke
      go_enter Tryd.func62,Tryd.ntmps62
      go_wp2_with fail
      refine (HC.out _).mono ?_
      rintro e w' ⟨rfl,rfl⟩
      go_wp2_with fail
      refine (HRA.out _ (HT.out.below HA.out)).mono ?_
      rintro e w2 ⟨rfl,hb2⟩;have HB2:=Lib.hid (HA.out.trans (hb2.mono HA.out.size));clear hb2
      go_wp2
      go_ret
      exact ⟨rfl,HB2.out⟩
    | true =>
      rw [ht] at HRA
      cases ht2:textD v with
      | false =>
        obtain rfl:false=M:=by rw [← HMM.out,ht,ht2];rfl
        rw [ht2] at HRB;clear h1 he hk hv hke
        go_enter Tryd.func62,Tryd.ntmps62
        go_wp2_with fail
        refine (HC.out _).mono ?_
        rintro e w' ⟨rfl,rfl⟩
        go_wp2_with fail
        refine (HRA.out _ (HT.out.below HA.out)).mono ?_
        rintro e w2 ⟨rfl,hb2⟩;have d0:=(hb2.cell (p:=⟨w.heap.size,0,none⟩) (by rw [World.size_alloc];exact Nat.lt_succ_self _)).trans c0
        have d1:=(hb2.cell (p:=⟨w.heap.size,1,none⟩) (by rw [World.size_alloc];exact Nat.lt_succ_self _)).trans c1
        have HB2:=Lib.hid (HA.out.trans (hb2.mono HA.out.size));clear hb2 c0 c1
        go_wp2_with fail
        refine (HRB.out _ (HT.out.below HB2.out)).mono ?_
        rintro e w3 ⟨rfl,hb3⟩;have HB3:=Lib.hid (HB2.out.trans (hb3.mono HB2.out.size));clear hb3
        go_wp2
        go_ret
        exact ⟨rfl,HB3.out⟩
      | true =>
        have hML:decide ((a.size:Int)+(b.size:Int)≤100000)=M:=by
         rw [← HMM.out,ht,ht2,HZ.out.1,HZ.out.2];simp;omega
        rw [ht2] at HRB;clear h1 he hk hv hke
        go_enter Tryd.func62,Tryd.ntmps62
        go_wp2_with fail
        refine (HC.out _).mono ?_
        rintro e w' ⟨rfl,rfl⟩
        go_wp2_with fail
        refine (HRA.out _ (HT.out.below HA.out)).mono ?_
        rintro e w2 ⟨rfl,hb2⟩;have d0:=(hb2.cell (p:=⟨w.heap.size,0,none⟩) (by rw [World.size_alloc];exact Nat.lt_succ_self _)).trans c0
        have d1:=(hb2.cell (p:=⟨w.heap.size,1,none⟩) (by rw [World.size_alloc];exact Nat.lt_succ_self _)).trans c1
        have HB2:=Lib.hid (HA.out.trans (hb2.mono HA.out.size));clear c0 c1
        go_wp2_with fail
        refine (HRB.out _ (HT.out.below HB2.out)).mono ?_
        rintro e w3 ⟨rfl,hb3⟩;have hlt2:w.heap.size < w2.heap.size:=Nat.lt_of_lt_of_le (by rw [World.size_alloc];exact Nat.lt_succ_self _) hb2.size
        have e0:=(hb3.cell (p:=⟨w.heap.size,0,none⟩) hlt2).trans d0;have e1:=(hb3.cell (p:=⟨w.heap.size,1,none⟩) hlt2).trans d1;have HB3:=Lib.hid (HB2.out.trans (hb3.mono HB2.out.size));clear hb2 hb3 d0 d1 hlt2
        go_wp2
        go_ret
        exact ⟨rfl,HB3.out⟩
end Go.Proofs.YtnpkcneojilmkaaDoor.Rec
end
section
namespace Go.Proofs.YtnpkcneojilmkaaDoor.Rec
open Go.ChangeShapes Go.WideShapes Go.ChangeAt Go.RowKit Base Byt Txt Path Go.Lib
set_option linter.unusedVariables false
set_option maxRecDepth 100000
set_option maxHeartbeats 1000000 in
theorem recLine_any (k v:List UInt8) (w:World) (hk:k.length≤1000000000000) (hv:v.length≤1000000000000) (hkv:k.length+v.length≤1000000000000) (hN:Need w) :
 Calls Tryd.prog 51 #[.agg #[.string (str k),.string (str v)]] w fun e w' =>
  e=.returned (.tuple #[.string (str (if mayD k v then lineD k v else [])),.bool (mayD k v)])∧Below w.heap.size w w':=by
 have HMAY:=Lib.hid (fun w1 h => recMayBe_any k v w1 hk hv h)
 have HT:=Lib.hid hN;obtain ⟨a,ha⟩:∃ a,a=str k:=⟨_,rfl⟩;obtain ⟨b,hb⟩:∃ b,b=str v:=⟨_,rfl⟩;obtain ⟨n1,hn1⟩:∃ n,a.size=n:=⟨_,rfl⟩;obtain ⟨n2,hn2⟩:∃ n,b.size=n:=⟨_,rfl⟩;have m1:k.length=n1:=by rw [← hn1,ha,str_size]
 have m2:v.length=n2:=by rw [← hn2,hb,str_size]
 have hbd:(⟨#[32]⟩:ByteArray)++a++⟨#[61]⟩++b++⟨#[10]⟩=str (bodyD k v):=by
  rw [ha,hb,show (⟨#[32]⟩:ByteArray)=str [32] from rfl,show (⟨#[61]⟩:ByteArray)=str [61] from rfl,show (⟨#[10]⟩:ByteArray)=str [10] from rfl,Txt.str_app,Txt.str_app,Txt.str_app,Txt.str_app]
  simp [bodyD]
 have s1:1+n1≤9223372036854775807:=by omega
 have s2:1+n1+1≤9223372036854775807:=by omega
 have s3:1+n1+1+n2≤9223372036854775807:=by omega
 have s4:1+n1+1+n2+1≤9223372036854775807:=by omega
 obtain ⟨B,hB⟩:∃ B,B=str (bodyD k v):=⟨_,rfl⟩;obtain ⟨m,hm⟩:∃ m,m=(bodyD k v).length:=⟨_,rfl⟩;have hBs:B.size=m:=by rw [hB,str_size,hm]
 have hm2:m=n1+n2+3:=by rw [hm,bodyD_length,m1,m2]
 rw [← hB] at hbd;obtain ⟨D,hD⟩:∃ D,D=str (decL (lineN m)):=⟨_,rfl⟩;have HL:Hid (str (lineD k v)=D++B):=Lib.hid (by rw [hB,hD,Txt.str_app,lineD,hm])
 have hDs:D.size+m≤9223372036854775807:=by
  have h1:=lineN_eq m (by omega)
  have h2:=lineN_ge m;have h3:=dec_le m 18 (by omega) (by omega)
  rw [hD,str_size];omega
 have HC:Hid (∀ w,Need w → Calls Tryd.prog 63 #[.int .i64 (m:Int)] w fun e w' => e=.returned (.string D)∧Below w.heap.size w w'):=Lib.hid (fun w h => by
  rw [hD]
  exact recCount_any m w (by omega) (by omega) h)
 rw [← ha,← hb] at HMAY ⊢;obtain ⟨c0,c1⟩:=cells2 w 52 (.string a) (.string b);have HA:Hid (Below w.heap.size w (w.alloc (.cells #[.string a,.string b] 52))):=Lib.hid ((Below.refl _ _).alloc (Nat.le_refl _) _);clear m1 m2 hB hm hm2 hkv hk hv hN ha hb hD
 cases hmay:mayD k v with
 | true =>
   rw [hmay] at HMAY;rw [if_pos rfl,HL.out];clear hmay
   go_enter Tryd.func51,Tryd.ntmps51
   go_wp2_with fail
   refine (HMAY.out _ (HT.out.below HA.out)).mono ?_
   rintro e w1 ⟨rfl,hb1⟩;have d0:=(hb1.cell (p:=⟨w.heap.size,0,none⟩) (by rw [World.size_alloc];exact Nat.lt_succ_self _)).trans c0
   have d1:=(hb1.cell (p:=⟨w.heap.size,1,none⟩) (by rw [World.size_alloc];exact Nat.lt_succ_self _)).trans c1
   have HB1:=Lib.hid (HA.out.trans (hb1.mono HA.out.size));clear hb1 c0 c1
   go_wp2_with fail
   refine (HC.out _ (HT.out.below HB1.out)).mono ?_
   rintro e w2 ⟨rfl,hb2⟩;have HB2:=Lib.hid (HB1.out.trans (hb2.mono HB1.out.size));clear hb2 s1 s2 s3 s4
   go_wp2
   go_ret2
   exact ⟨rfl,HB2.out⟩
 | false =>
   rw [hmay] at HMAY;rw [if_neg (by simp)]
   clear hmay
   go_enter Tryd.func51,Tryd.ntmps51
   go_wp2_with fail
   refine (HMAY.out _ (HT.out.below HA.out)).mono ?_
   rintro e w1 ⟨rfl,hb1⟩;have HB1:=Lib.hid (HA.out.trans (hb1.mono HA.out.size));clear hb1
   go_wp2
   go_ret2
   exact ⟨rfl,HB1.out⟩
theorem recLine_yes (k v:List UInt8) (w:World) (hm:mayD k v=true) (hkv:k.length+v.length≤1000000000000) (hN:Need w) :
 Calls Tryd.prog 51 #[.agg #[.string (str k),.string (str v)]] w fun e w' => e=.returned (.tuple #[.string (str (lineD k v)),.bool true])∧Below w.heap.size w w':=by
 have:=recLine_any k v w (by omega) (by omega) hkv hN
 rwa [hm,if_pos rfl] at this
theorem recLine_no (k v:List UInt8) (w:World) (hm:mayD k v=false) (hkv:k.length+v.length≤1000000000000) (hN:Need w) :
 Calls Tryd.prog 51 #[.agg #[.string (str k),.string (str v)]] w fun e w' => e=.returned (.tuple #[.string (str []),.bool false])∧Below w.heap.size w w':=by
 have:=recLine_any k v w (by omega) (by omega) hkv hN
 rwa [hm,if_neg (by simp)] at this
theorem lines_take (rs:List (List UInt8 × List UInt8)) (j:Nat) (h:j < rs.length):linesD (rs.take (j+1))=linesD (rs.take j)++lineD (rs.getD j ([],[])).1 (rs.getD j ([],[])).2:=by
 rw [List.take_add_one,List.getElem?_eq_getElem h,List.getD,List.getElem?_eq_getElem h];simp only [Option.toList,linesD,List.map_append,List.flatten_append,List.map_cons,List.map_nil,List.flatten_cons,List.flatten_nil,List.append_nil,Option.getD_some]
theorem getD_mem (rs:List (List UInt8 × List UInt8)) (j:Nat) (h:j < rs.length):rs.getD j ([],[]) ∈ rs:=by
 rw [List.getD,List.getElem?_eq_getElem h];exact List.getElem_mem h
theorem take_all (rs:List (List UInt8 × List UInt8)) (j:Nat) (h:j < rs.length) (P:List UInt8 × List UInt8 → Prop) (h1:∀ r ∈ rs.take j,P r) (h2:P (rs.getD j ([],[]))):∀ r ∈ rs.take (j+1),P r:=by
 intro r hr;rw [List.take_add_one,List.getElem?_eq_getElem h] at hr;rcases List.mem_append.1 hr with h3 | h3
 ·exact h1 r h3
 ·rw [List.getD,List.getElem?_eq_getElem h] at h2
  simp at h3;rw [h3];exact h2
theorem lines_len (l:List (List UInt8 × List UInt8)) (h:∀ r ∈ l,mayD r.1 r.2=true):(linesD l).length≤100010 * l.length:=by
 induction l with
 | nil => simp [linesD]
 | cons r l ih =>
   have h1:=ih fun x hx => h x (List.mem_cons_of_mem _ hx)
   have hr:=h r (by simp)
   obtain ⟨d,_,_,_,_,h7,_,hl⟩:=line_parts hr;have h5:=(mayD_spec hr).2.2.2.2;have e:linesD (r :: l)=lineD r.1 r.2++linesD l:=by simp [linesD]
   rw [e,List.length_append,List.length_cons];omega
theorem nums_app (a b:List UInt8):nums (a++b)=nums a++nums b:=by simp [nums]
theorem strCells_str (l:List UInt8):strCells (str l)=(nums l).map (Value.int .u8):=by
 unfold strCells nums;rw [str_data,List.map_map];rfl
def PutsOwn (rs:List (List UInt8 × List UInt8)) (w:World) (e:Ending) (w':World):Prop:=
 ((∀ r ∈ rs,mayD r.1 r.2=true) → ∃ p c,e=.returned (.tuple #[.slice p (linesD rs).length c,.bool true])∧(linesD rs).length≤c∧c≤maxLen∧BAt w' p (linesD rs).length (linesD rs)∧(∀ x,p=some x → w.heap.size≤x.block)) ∧
   ((∃ r ∈ rs,mayD r.1 r.2=false) → e=.returned (.tuple #[.slice none 0 0,.bool false]))∧Below w.heap.size w w'
theorem infoOctR:(Tryd.prog.info? 5).map (fun i => (i.zero,i.size,i.bytes))=some (some (.int .u8 0),1,1):=by kernel_rfl
set_option maxHeartbeats 4000000 in
theorem recPut_own (p:Option Addr) (n c:Nat) (rs:List (List UInt8 × List UInt8)) (w:World) (hm:n≤1000000000) (h:RecsAt w p n rs) (hsz:∀ r ∈ rs,r.1.length+r.2.length≤1000000000000) (hN:Need w) :
 Calls Tryd.prog 31 #[.slice p n c] w (PutsOwn rs w):=by
 have H:=Lib.hid h;have HRL:=Lib.hid h.1;have HSZ:=Lib.hid hsz;have HT:=Lib.hid hN;obtain ⟨i0,hi,hz0,hz1,hz2⟩:=info_parts infoOctR;have HI:=Lib.hid hi;have HZ0:=Lib.hid hz0;have HZ1:=Lib.hid hz1;have HZ2:=Lib.hid hz2;have HM:=Lib.hid hm;have hmi:(n:Int)≤1000000000:=by omega
 clear h hsz hN hi hz0 hz1 hz2 hm
 go_enter Tryd.func31,Tryd.ntmps31
 go_wp2_with fail
 go_loopw [4,11] (fun o i wr => ∃ (j:Nat),j≤n∧i=.int .i64 (j:Int)∧Hid (wr.ownsRow w.heap.size 5 1 o (linesD (rs.take j)).length ((nums (linesD (rs.take j))).map (Value.int .u8)))∧Hid (∀ r ∈ rs.take j,mayD r.1 r.2=true)∧Hid (Below w.heap.size w wr)) (fun _ i _ => n - (RowKit.intOf i).toNat)
 case atStart => exact ⟨0,Nat.zero_le _,rfl,Lib.hid (World.ownsRow_nil _ _ _ _),Lib.hid (by simp),Lib.hid (Below.refl _ _)⟩
 case round =>
  obtain ⟨j,hj,rfl,hown,hall,hB⟩:=hrel
  by_cases hlt:j < n
  ·obtain ⟨b1,o1,rfl,hb1,hc1⟩:=(H.out.below hB.out).2 (by omega)
   obtain ⟨x0,x1⟩:=hc1 j hlt;obtain ⟨u,hu⟩:∃ u,rs.getD j ([],[])=u:=⟨_,rfl⟩;rw [hu,Nat.mul_comm] at x0 x1;have HU:=Lib.hid hu;have HMEM:Hid (u ∈ rs):=Lib.hid (by rw [← hu];exact getD_mem rs j (by rw [HRL.out];exact hlt))
   have hltz:(j:Int) < (n:Int):=by omega
   have HKV:=Lib.hid (HSZ.out u HMEM.out);have HBA:Hid (Below w.heap.size w (wr.alloc (.cells #[.string (str u.1),.string (str u.2)] 52))):=Lib.hid (hB.out.alloc hB.out.size _);have HJ:=Lib.hid hlt;have HBW:Hid (Below wr.heap.size wr (wr.alloc (.cells #[.string (str u.1),.string (str u.2)] 52))):=Lib.hid ((Below.refl _ _).alloc (Nat.le_refl _) _);clear hc1 hu hb1
   cases hmay:mayD u.1 u.2 with
   | false =>
     have HLN:=Lib.hid (fun w1 h1 => recLine_no u.1 u.2 w1 hmay HKV.out h1)
     have HNO:Hid (∃ r ∈ rs,mayD r.1 r.2=false):=Lib.hid ⟨u,HMEM.out,hmay⟩;clear hmay
     go_wp2_with fail
     refine (HLN.out _ (HT.out.below HBA.out)).mono ?_
     rintro e w1 ⟨rfl,hb2⟩;have HB2:=Lib.hid (HBA.out.trans (hb2.mono HBA.out.size));clear hb2
     go_wp2
     go_ret2
     refine ⟨fun h => ?_,fun _ => rfl,HB2.out⟩
     obtain ⟨r,hr,hr2⟩:=HNO.out;rw [h r hr] at hr2
     cases hr2
   | true =>
     have HLN:=Lib.hid (fun w1 h1 => recLine_yes u.1 u.2 w1 hmay HKV.out h1)
     obtain ⟨L,hL⟩:∃ L,str (lineD u.1 u.2)=L:=⟨_,rfl⟩;have HL:=Lib.hid hL;have HLS:Hid (L.size=(lineD u.1 u.2).length):=Lib.hid (by rw [← hL,str_size])
     have HAL:Hid (∀ r ∈ rs.take (j+1),mayD r.1 r.2=true):=Lib.hid (take_all rs j (by rw [HRL.out];exact hlt) _ hall.out (by rw [HU.out];exact hmay))
     have HNX:Hid (linesD (rs.take (j+1))=linesD (rs.take j)++lineD u.1 u.2):=Lib.hid (by rw [lines_take rs j (by rw [HRL.out];exact hlt),HU.out])
     have HBND:Hid ((linesD (rs.take j)).length+L.size≤140737488351232):=Lib.hid (by
      have h1:=lines_len _ HAL.out;rw [HNX.out,List.length_append,List.length_take] at h1;have:=HM.out;have:=HLS.out;have:min (j+1) rs.length≤1000000000:=by omega
      omega)
     clear hmay
     go_wp2_with fail
     refine (HLN.out _ (HT.out.below HBA.out)).mono ?_
     rw [hL];rintro e w1 ⟨rfl,hb2⟩;have HB2:=Lib.hid (HBA.out.trans (hb2.mono HBA.out.size));have HOW1:=Lib.hid (row_below hown.out (HBW.out.trans (hb2.mono HBW.out.size)));clear hb2 hL
     go_wp2_with (at_builtin;refine wpList_append_own_string _ rfl _ _ 24 9 rfl w.heap.size 5 i0 Tryd.underlying24 Tryd.underlying9 HI.out HZ0.out HZ1.out HZ2.out _ _ _ rfl HOW1.out L rfl (by have:=HBND.out;unfold maxLen;omega) (by have:=HBND.out;omega) HB2.out.size ?_)
     intro v' w2 hown' hgrow _
     have HOWN:Hid (w2.ownsRow w.heap.size 5 1 v' (linesD (rs.take (j+1))).length ((nums (linesD (rs.take (j+1)))).map (Value.int .u8))):=Lib.hid (by
      rw [HNX.out,List.length_append,← HLS.out,nums_app,List.map_append,← strCells_str (lineD u.1 u.2),HL.out]
      exact hown')
     have HBW2:Hid (Below w.heap.size w w2):=Lib.hid (HB2.out.grown hgrow HB2.out.size (fun b hb => by
      rcases HOW1.out.2 with ⟨rfl,_⟩ | ⟨g,cap,cur,rfl,hb2,_⟩
      ·cases hb
      ·cases hb;exact hb2))
     clear hown' hgrow
     go_wp2_with fail
     go_roundw
     case rel => exact ⟨j+1,by omega,by go_num,HOWN,HAL,HBW2⟩
     case measure => simp [RowKit.intOf];omega
  ·have hks:¬ ((j:Int) < (n:Int)):=by omega
   have HTK:Hid (rs.take j=rs):=Lib.hid (List.take_of_length_le (by rw [HRL.out];omega))
   have hown2:=hown.out;have hall2:=hall.out;rw [HTK.out] at hown2 hall2;obtain ⟨q,cq,rfl,h1,h2,h3,h4⟩:=bat_of_own hown2 (nums_bd _)
   have hpl:∀ x,q=some x → w.heap.size≤x.block:=fun x hx => by
    rcases hown2.2 with ⟨h,_⟩ | ⟨g,cap,cur,h,hb,_⟩
    ·simp only [Value.slice.injEq] at h
     rw [h.1] at hx
     cases hx
    ·simp only [Value.slice.injEq] at h
     rw [h.1] at hx
     cases hx
     exact hb
   have HPL:=Lib.hid hpl;clear hpl;rw [bytesOf_nums] at h3;have H3:=Lib.hid (And.intro h1 (And.intro h2 h3));have HAL:=Lib.hid hall2;clear h1 h2 h3 h4 hown2 hall2
   go_wp2
   go_ret2
   refine ⟨fun _ => ⟨q,cq,rfl,H3.out.1,H3.out.2.1,H3.out.2.2,HPL.out⟩,fun hx => ?_,hB.out⟩
   obtain ⟨r,hr,hr2⟩:=hx;rw [HAL.out r hr] at hr2
   cases hr2
end Go.Proofs.YtnpkcneojilmkaaDoor.Rec
end
