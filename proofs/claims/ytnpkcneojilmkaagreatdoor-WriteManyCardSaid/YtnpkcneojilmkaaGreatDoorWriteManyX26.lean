/- Texts of this seat, merged: what the proof reaches. -/
import Derived.Test.YtnpkcneojilmkaaGreatDoorWriteManyX21
import Derived.Test.YtnpkcneojilmkaaGreatDoorWriteManyX16
import Derived.WalkSpells
import Derived.Lib.IndexBytes
import Derived.Test.YtnpkcneojilmkaaGreatDoorWriteManyX23
import Derived.Test.YtnpkcneojilmkaaGreatDoorWriteManyX5
import Derived.Laws.StructEq
import Derived.Lib.SlBytesConst
section
namespace Go.Proofs.YtnpkcneojilmkaaGreatDoor.Head
open Go.ChangeShapes Go.WideShapes Go.ChangeAt Go.RowKit Base Byt Txt Hp Go.Proofs.YtnpkcneojilmkaaGreatDoor.Mp Num
set_option linter.unusedVariables false
set_option maxRecDepth 100000
def cutV (name:List UInt8):Value:=
 match cutR name with
 | some (p,s) => .tuple #[.string (str p),.string (str s),.bool true]
 | none => .tuple #[.string ⟨#[]⟩,.string ⟨#[]⟩,.bool false]
theorem cutV_some {name p s:List UInt8} (h:cutR name=some (p,s)):cutV name=.tuple #[.string (str p),.string (str s),.bool true]:=by rw [cutV,h]
theorem cutV_none {name:List UInt8} (h:cutR name=none):cutV name=.tuple #[.string ⟨#[]⟩,.string ⟨#[]⟩,.bool false]:=by rw [cutV,h]
theorem ext_take (s:ByteArray) (k:Nat):s.extract 0 k=str (s.data.toList.take k):=by
 apply ByteArray.ext;apply Array.toList_inj.1;rw [ByteArray.data_extract,Array.toList_extract];rfl
theorem ext_drop (s:ByteArray) (k:Nat):s.extract k s.size=str (s.data.toList.drop k):=by
 apply ByteArray.ext;apply Array.toList_inj.1;rw [ByteArray.data_extract,Array.toList_extract];show (s.data.toList.drop k).take (s.size - k)=s.data.toList.drop k;rw [List.take_of_length_le];rw [List.length_drop,Array.length_toList];exact Nat.le_refl _
theorem s_at (s:ByteArray) (k:Nat) (h:k < s.size):s.data.toList.getD k 0=s[k]:=by
 rw [List.getD,List.getElem?_eq_getElem (show k < s.data.toList.length by simpa using h)]
 rfl
set_option maxHeartbeats 2000000 in
theorem hcut_any (s:ByteArray) (w:World) (hm:s.size≤140737488351232) :
 Calls Tryz.prog 90 #[.string s] w fun e w' => e=.returned (cutV s.data.toList)∧Kept noneB w w':=by
 have hlen:s.data.toList.length=s.size:=by simp
 have HLEN:=Lib.hid hlen;clear hlen
 by_cases hshort:s.size≤100
 ·have E:Hid (cutV s.data.toList=.tuple #[.string ⟨#[]⟩,.string s,.bool true]):=Lib.hid (by
   rw [cutV_some (cutR_short (by rw [HLEN.out];exact hshort)),str_of];rfl)
  go_enter Tryz.func90,Tryz.ntmps90
  go_wp2
  go_ret3
  rw [E.out];exact ⟨rfl,Kept.refl _ _⟩
 ·have HS:Hid (¬ s.data.toList.length≤100):=Lib.hid (by rw [HLEN.out];exact hshort)
  go_enter Tryz.func90,Tryz.ntmps90
  go_wp2_with fail
  go_loopw [14] (fun i wr => ∃ (k:Nat),k≤s.size∧i=.int .i64 k∧Hid (∀ j,j < k → ¬ mayCut s.data.toList j)∧Hid (Kept noneB w wr)) (fun i _ => s.size - (RowKit.intOf i).toNat)
  case atStart => exact ⟨0,Nat.zero_le _,rfl,Lib.hid (fun j hj => by omega),Lib.hid (Kept.refl _ _)⟩
  case round =>
   obtain ⟨k,hk,rfl,hr,hK⟩:=hrel
   by_cases hlt:k < s.size
   ·have hxg:Hid (((s[k]).toNat:Int)=((s.data.toList.getD k 0).toNat:Int)):=Lib.hid (by rw [s_at s k hlt])
    have e1:(s.extract 0 k).size=k:=by rw [ext_take,str_size,List.length_take,HLEN.out];omega
    have e2:(s.extract (k+1) s.size).size=s.size - (k+1):=by rw [ext_drop,str_size,List.length_drop,HLEN.out]
    have HNO:Hid ((¬ mayCut s.data.toList k) → ∀ j,j < k+1 → ¬ mayCut s.data.toList j):=Lib.hid (fun h j hj => by
     rcases Nat.lt_succ_iff_lt_or_eq.1 hj with h' | rfl
     ·exact hr.out j h'
     ·exact h)
    have E3:=Lib.hid (ext_take s k);have E4:=Lib.hid (ext_drop s (k+1));have hxb:=u8_bd (s[k]);obtain ⟨hx0,hx1⟩:=hxb;have HK:=Lib.hid (fun nq => hK.out.drewN nq)
    by_cases hc:((s[k]).toNat:Int)=47
    ·have HC:Hid (s.data.toList.getD k 0=47):=Lib.hid (UInt8.toNat_inj.1 (show (s.data.toList.getD k 0).toNat=47 by have:=hxg.out;omega))
     have hcb:(((s[k]).toNat:Int) == 47)=true:=by simpa using hc
     by_cases hb:1≤s.size - (k+1)∧s.size - (k+1)≤100
     ·obtain ⟨hb1,hb2⟩:=hb
      by_cases ha:1≤k∧k≤155
      ·obtain ⟨ha1,ha2⟩:=ha
       have hm:Hid (mayCut s.data.toList k):=Lib.hid ⟨HC.out,ha1,ha2,by rw [HLEN.out];omega,by rw [HLEN.out];omega⟩
       have E:Hid (cutV s.data.toList=.tuple #[.string (s.extract 0 k),.string (s.extract (k+1) s.size),.bool true]):=Lib.hid (by
        rw [cutV_some (cutR_at HS.out hm.out hr.out),← E3.out,← E4.out])
       go_wp2_with fail
       go_quiet (fail)
       go_wp2_with (go_at_call 98;first | (refine (in_yes _ _ _ _ (by omega) (by omega)).mono ?_;rintro e wz ⟨rfl,rfl⟩) | (refine (in_no _ _ _ _ (by omega)).mono ?_;rintro e wz ⟨rfl,rfl⟩))
       go_ret3
       rw [E.out];exact ⟨rfl,HK.out _⟩
      ·have HM:Hid (¬ mayCut s.data.toList k):=Lib.hid (fun h => ha ⟨h.2.1,h.2.2.1⟩)
       go_wp2_with fail
       go_quiet (fail)
       go_wp2_with (go_at_call 98;first | (refine (in_yes _ _ _ _ (by omega) (by omega)).mono ?_;rintro e wz ⟨rfl,rfl⟩) | (refine (in_no _ _ _ _ (by omega)).mono ?_;rintro e wz ⟨rfl,rfl⟩))
       go_roundw
       case rel => exact ⟨k+1,by omega,by go_num,Lib.hid (HNO.out HM.out),Lib.hid (HK.out _)⟩
       case measure => simp [RowKit.intOf];omega
     ·have HM:Hid (¬ mayCut s.data.toList k):=Lib.hid (fun h => hb (by
       have h1:=h.2.2.2.1;have h2:=h.2.2.2.2;rw [HLEN.out] at h1 h2
       omega))
      go_wp2_with fail
      go_quiet (fail)
      go_wp2_with (go_at_call 98;first | (refine (in_yes _ _ _ _ (by omega) (by omega)).mono ?_;rintro e wz ⟨rfl,rfl⟩) | (refine (in_no _ _ _ _ (by omega)).mono ?_;rintro e wz ⟨rfl,rfl⟩))
      go_roundw
      case rel => exact ⟨k+1,by omega,by go_num,Lib.hid (HNO.out HM.out),Lib.hid (HK.out _)⟩
      case measure => simp [RowKit.intOf];omega
    ·have HM:Hid (¬ mayCut s.data.toList k):=Lib.hid (fun h => hc (by rw [hxg.out,h.1];rfl))
     have hcb:(((s[k]).toNat:Int) == 47)=false:=by simpa using hc
     go_wp2_with fail
     go_quiet (fail)
     go_wp2_with (go_at_call 98;first | (refine (in_yes _ _ _ _ (by omega) (by omega)).mono ?_;rintro e wz ⟨rfl,rfl⟩) | (refine (in_no _ _ _ _ (by omega)).mono ?_;rintro e wz ⟨rfl,rfl⟩))
     go_roundw
     case rel => exact ⟨k+1,by omega,by go_num,Lib.hid (HNO.out HM.out),Lib.hid (HK.out _)⟩
     case measure => simp [RowKit.intOf];omega
   ·have hks:Hid (k=s.size):=Lib.hid (by omega)
    have E:Hid (cutV s.data.toList=.tuple #[.string ⟨#[]⟩,.string ⟨#[]⟩,.bool false]):=Lib.hid (cutV_none (cutR_none HS.out (by
     rw [HLEN.out,← hks.out];exact hr.out)))
    go_wp2
    go_ret3
    rw [E.out];exact ⟨rfl,hK.out⟩
end Go.Proofs.YtnpkcneojilmkaaGreatDoor.Head
end
section
namespace Go.Proofs.YtnpkcneojilmkaaGreatDoor.Head
open Go.ChangeShapes Go.WideShapes Go.ChangeAt Go.RowKit Base Byt Txt Hp Go.Proofs.YtnpkcneojilmkaaGreatDoor.Mp Fp Go.Proofs.YtnpkcneojilmkaaGreatDoor.Field Go.Lib
set_option linter.unusedVariables false
set_option maxRecDepth 100000
theorem index_zero (l:List UInt8):decide (0≤Lib.indexByte l 0)=l.contains 0:=by
 cases hc:l.contains 0 with
 | true =>
   rw [decide_eq_true_eq];have hm:(0:UInt8) ∈ l:=by simpa using hc
   obtain ⟨k,hk⟩:=List.getElem?_of_mem hm;have hge:=Lib.indexByte_ge l 0;rcases Int.lt_or_le (Lib.indexByte l 0) 0 with h | h
   ·exact absurd hk (Lib.indexByte_none (show Lib.indexByte l 0 = -1 by omega) k)
   ·exact h
 | false =>
   rw [decide_eq_false_iff_not];intro h;obtain ⟨k,hk⟩:∃ k:Nat,Lib.indexByte l 0=k:=⟨(Lib.indexByte l 0).toNat,by omega⟩
   have h1:=List.mem_of_getElem? (Lib.indexByte_some hk).1;have h2:l.contains 0=true:=by simpa using h1
   rw [hc] at h2
   cases h2
theorem contains_any (l:List UInt8) (w:World):Calls Tryz.prog 118 #[.string (str l),.string ⟨#[0]⟩] w fun e w' => e=.returned (.bool (l.contains 0))∧w=w':=
 (Any.strings_Contains_one Tryz.laysConts (str l) 0 w).mono fun e w' ⟨h1,h2⟩ => ⟨by rw [h1,str_data,index_zero],h2.symm⟩
theorem put_zero {own:Nat → List UInt8} {i:Nat} {t:List UInt8} (hz:own i=List.replicate (wideF i) 0) (hl:t.length≤wideF i):putInto (own i) (t.take (wideF i))=padTo (wideF i) t:=by
 rw [hz,List.take_of_length_le hl,putInto_zero]
theorem putR_cut {h:HeadV} (hc:cutR h.name=none):putR h=none:=by unfold putR;rw [hc]
theorem putR_bad {h:HeadV} (hb:badH h=true):putR h=none:=by
 unfold putR
 cases cutR h.name with
 | none => rfl
 | some ps => simp only;rw [if_pos (by rw [hb];rfl)]
theorem putR_num {h:HeadV} (hn:numsOk h=false):putR h=none:=by
 unfold putR
 cases cutR h.name with
 | none => rfl
 | some ps => simp only;rw [if_pos (by rw [hn];simp)]
theorem putR_ok {h:HeadV} {p s:List UInt8} (hc:cutR h.name=some (p,s)) (hb:badH h=false) (hn:numsOk h=true):putR h=some (blockA (own2 h p s)):=by
 unfold putR;rw [hc];simp only;rw [if_neg (by rw [hb,hn];simp)]
def PutHPost (w:World) (r:Option (List UInt8)) (e:Ending) (w':World):Prop:=
 Kept noneB w w'∧((∃ bs g,r=some bs∧e=.returned (.tuple #[.slice (some ⟨g,0,none⟩) 512 512,.bool true])∧RowB w' g bs∧w.heap.size≤g) ∨ (r=none∧e=.returned (.tuple #[.slice none 0 0,.bool false])))
theorem one_bat (w:World) (k:UInt8):BAt (w.alloc (.cells #[.int .u8 (k.toNat:Int)] 5)) (some ⟨w.heap.size,0,none⟩) 1 [k]:=fun _ =>
 ⟨w.heap.size,0,rfl,fun i hi => by
  obtain rfl:i=0:=by omega
  rw [World.cell?_alloc_at _ _ _ _ rfl]
  rfl⟩
theorem own1_field (h:HeadV) (p s:List UInt8):own1 h p s 0=padTo 100 s∧own1 h p s 6=List.replicate 8 0∧own1 h p s 7=[h.kind]∧own1 h p s 8=padTo 100 h.link∧own1 h p s 9=ustarB∧own1 h p s 10=padTo 155 p ∧ ∀ i,1≤i → i≤5 → own1 h p s i=numB h i:=by
 refine ⟨rfl,rfl,rfl,rfl,rfl,rfl,fun i h1 h2 => ?_⟩
 unfold own1;rw [if_neg (by omega),if_neg (by omega),if_neg (by omega),if_neg (by omega),if_neg (by omega),if_neg (by omega),if_pos h2]
set_option maxHeartbeats 4000000 in
theorem putH_any (h:HeadV) (hwf:∀ i,(Lit.int .i64 (numH h i)).wf=true) (hnl:h.name.length≤140737488351232) (hll:h.link.length≤140737488351232) (w:World) :
 Calls Tryz.prog 92 #[.agg #[.string (str h.name),.string (str h.link),.int .u8 (h.kind.toNat:Int),.int .i64 h.mode,.int .i64 h.uid,.int .i64 h.gid,.int .i64 h.time,.int .i64 h.size,.bool h.gnu]] w (PutHPost w (putR h)):=by
 obtain ⟨w0,hw0⟩:∃ w0,w0=w.alloc (.cells #[.string (str h.name),.string (str h.link),.int .u8 (h.kind.toNat:Int),.int .i64 h.mode,.int .i64 h.uid,.int .i64 h.gid,.int .i64 h.time,.int .i64 h.size,.bool h.gnu] 41):=⟨_,rfl⟩;have HW:Hid (Kept noneB w w0):=Lib.hid (by rw [hw0];exact (Kept.refl _ _).alloc _)
 have HB0:Hid (w0.heap[w.heap.size]? = some (.cells (headC h) 41 (0,0))):=Lib.hid (by rw [hw0];exact heap_alloc_new _ _)
 have HWF:=Lib.hid hwf;have hls:(str h.link).size=h.link.length:=str_size _;clear hwf
 go_enter Tryz.func92,Tryz.ntmps92
 go_wp2_with fail
 rw [← hw0];clear hw0;refine (hcut_any (str h.name) w0 (by rw [str_size];exact hnl)).mono ?_
 rintro e w1 ⟨rfl,hk1⟩;rw [str_data];have HK1:=Lib.hid hk1;clear hk1
 cases hcut:cutR h.name with
 | none =>
   rw [cutV_none hcut];have hR:=putR_cut hcut;have HR:=Lib.hid hR;clear hR hcut;have c1:=cellsAt (HK1.out.some_ HB0.out id);unfold headC at c1
   go_wp2
   go_ret2
   exact ⟨HW.out.trans HK1.out,Or.inr ⟨HR.out,rfl⟩⟩
 | some ps =>
   obtain ⟨p,s⟩:=ps;rw [cutV_some hcut];have HCUT:=Lib.hid hcut;have HSP:=Lib.hid (cutR_spec hcut);clear hcut;have c1:=cellsAt (HK1.out.some_ HB0.out id);unfold headC at c1
   by_cases hgn:h.gnu=true
   ·have HR:Hid (putR h=none):=Lib.hid (putR_bad (by unfold badH;rw [hgn];rfl))
    rw [hgn] at c1;clear hgn
    go_wp2
    go_ret2
    exact ⟨HW.out.trans HK1.out,Or.inr ⟨HR.out,rfl⟩⟩
   ·have hgn':h.gnu=false:=by simpa using hgn
    have HGN:=Lib.hid hgn'
    by_cases hk0:h.kind=0
    ·have HR:Hid (putR h=none):=Lib.hid (putR_bad (by unfold badH;rw [hgn',hk0];rfl))
     rw [hgn',hk0] at c1;have c1:∀ i,w1.cell? ⟨w.heap.size,i,none⟩=(#[.string (str h.name),.string (str h.link),.int .u8 0,.int .i64 h.mode,.int .i64 h.uid,.int .i64 h.gid,.int .i64 h.time,.int .i64 h.size,.bool false]:Array Value)[i]?:=c1;clear hgn hgn' hk0
     go_wp2
     go_ret2
     exact ⟨HW.out.trans HK1.out,Or.inr ⟨HR.out,rfl⟩⟩
    ·have hkk:((h.kind.toNat:Int) == 0)=false:=by
      have h1:h.kind.toNat≠0:=fun e => hk0 (UInt8.toNat_inj.1 e)
      simp;omega
     have HKD:=Lib.hid hk0;have hkz:¬ ((h.kind.toNat:Int)=0):=by simpa using hkk
     by_cases hlk:h.link.length≤100
     ·rw [hgn'] at c1
      clear hgn hgn' hk0
      go_wp2_with fail
      refine (contains_any h.name w1).mono ?_
      rintro e w1' ⟨rfl,rfl⟩
      by_cases hz1:h.name.contains 0=true
      ·have HR:Hid (putR h=none):=Lib.hid (putR_bad (by unfold badH;rw [hz1];simp))
       rw [hz1];clear hz1
       go_wp2
       go_ret2
       exact ⟨HW.out.trans HK1.out,Or.inr ⟨HR.out,rfl⟩⟩
      ·have hz1':h.name.contains 0=false:=by simpa using hz1
       have HZ1:=Lib.hid hz1';rw [hz1'];clear hz1 hz1'
       go_wp2_with fail
       refine (contains_any h.link w1).mono ?_
       rintro e w1' ⟨rfl,rfl⟩
       by_cases hz2:h.link.contains 0=true
       ·have HR:Hid (putR h=none):=Lib.hid (putR_bad (by unfold badH;rw [hz2];simp))
        rw [hz2];clear hz2
        go_wp2
        go_ret2
        exact ⟨HW.out.trans HK1.out,Or.inr ⟨HR.out,rfl⟩⟩
       ·have hz2':h.link.contains 0=false:=by simpa using hz2
        have HBAD:Hid (badH h=false):=Lib.hid (by
         unfold badH;rw [HGN.out,HZ1.out,hz2'];have h1:(h.kind == 0)=false:=by simpa using HKD.out
         have h2:¬ 100 < h.link.length:=by omega
         rw [h1]
         simp [h2])
        rw [hz2'];clear hz2 hz2'
        go_wp2_with fail
        refine (blank_any w1).mono ?_
        rintro e w2 ⟨B,r,rfl,hP2,hk2⟩;have HK2:=Lib.hid (HK1.out.trans hk2);have HLO:Hid (w0.heap.size≤w1.heap.size):=Lib.hid HK1.out.size;obtain ⟨lo,hlo⟩:∃ lo,lo=w1.heap.size:=⟨_,rfl⟩;rw [← hlo] at hP2;have HLW:Hid (w0.heap.size≤lo):=Lib.hid (by rw [hlo];exact HLO.out)
        have HP2:=Lib.hid hP2;have HROW:Hid (∀ i,i < 11 → w0.heap.size≤r i):=Lib.hid (fun i hi => Nat.le_trans HLW.out (hP2.lo.2 i hi))
        clear hP2 hk2 hlo c1;have c2:=cellsAt (HK2.out.some_ HB0.out id);unfold headC at c2;rw [HGN.out] at c2
        go_wp2_with fail
        refine Calls.mono (show Calls _ _ _ _ (PutNumsPost w2 lo B r h zeroO) by
         have hh:=putNumbers_any h HWF.out lo B r zeroO w2 HP2.out (fun i _ _ => rfl)
         rw [HGN.out] at hh
         exact hh) ?_
        intro e w3 h3;obtain ⟨hk3,(⟨hok,rfl,hP3⟩ | ⟨hno,rfl⟩)⟩:=h3
        ·have HOK:=Lib.hid hok
         have HP3:=Lib.hid hP3
         have HK3:=Lib.hid (HK2.out.then hk3 (fun k hk => Or.inl (by
          obtain ⟨i,hi,rfl⟩:=hk
          exact HROW.out i hi)))
         have hKT:∀ (i:Nat) (wa wb:World),i < 11 → Kept noneB w0 wa → Kept (oneB (r i)) wa wb → Kept noneB w0 wb:=fun i wa wb hi ha hb => ha.then hb (fun k hk => Or.inl (by
          have h1:k=r i:=hk;rw [h1]
          exact HROW.out i hi))
         have HKT:=Lib.hid hKT;have hsl:s.length≤100:=HSP.out.1;have hpl:p.length≤155:=HSP.out.2.1;clear hok hP3 hk3 c2 hKT
         go_wp2_with fail
         refine (put_field lo B r _ 0 (str s) w3 (by omega) HP3.out).mono ?_
         rintro e w4 ⟨rfl,hP4,hk4,-⟩;rw [str_data,put_zero (i:=0) (t:=s) rfl hsl] at hP4;have HP4:=Lib.hid hP4;have HK4:=Lib.hid (HKT.out 0 _ _ (by omega) HK3.out hk4)
         clear hP4 hk4
         go_wp2_with fail
         refine (put_field lo B r _ 10 (str p) w4 (by omega) HP4.out).mono ?_
         rintro e w5 ⟨rfl,hP5,hk5,-⟩;rw [str_data,put_zero (i:=10) (t:=p) rfl hpl] at hP5;have HP5:=Lib.hid hP5;have HK5:=Lib.hid (HKT.out 10 _ _ (by omega) HK4.out hk5)
         clear hP5 hk5;have c5:=cellsAt (HK5.out.some_ HB0.out id);unfold headC at c5
         have cvk:(convert 24 9 (.slice (some ⟨w5.heap.size,0,none⟩) 1 1)).run Tryz.prog (w5.alloc (.cells #[.int .u8 (h.kind.toNat:Int)] 5))=.ok (.string (str [h.kind])) (w5.alloc (.cells #[.int .u8 (h.kind.toNat:Int)] 5)):=
          conv_at (one_bat w5 h.kind) rfl _ _ _ Tryz.underlying24 Tryz.underlying5 Tryz.underlying9 1
         have HA5:=Lib.hid ((Kept.refl noneB w5).alloc (.cells #[.int .u8 (h.kind.toNat:Int)] 5))
         go_wp2_with fail
         refine (put_field lo B r _ 7 (str [h.kind]) _ (by omega) (HP5.out.kept0 HA5.out)).mono ?_
         rintro e w6 ⟨rfl,hP6,hk6,-⟩;rw [str_data,put_zero (i:=7) (t:=[h.kind]) rfl (Nat.le_refl 1)] at hP6;have HP6:=Lib.hid hP6;have HK6:=Lib.hid (HKT.out 7 _ _ (by omega) (HK5.out.trans HA5.out) hk6)
         clear hP6 hk6 c5 cvk;have c6:=cellsAt (HK6.out.some_ HB0.out id);unfold headC at c6
         go_wp2_with fail
         refine (put_field lo B r _ 8 (str h.link) w6 (by omega) HP6.out).mono ?_
         rintro e w7 ⟨rfl,hP7,hk7,-⟩;rw [str_data,put_zero (i:=8) (t:=h.link) rfl hlk] at hP7;have HP7:=Lib.hid hP7;have HK7:=Lib.hid (HKT.out 8 _ _ (by omega) HK6.out hk7)
         clear hP7 hk7 c6
         go_wp2_with fail
         refine (put_field lo B r _ 9 _ w7 (by omega) HP7.out).mono ?_
         rintro e w8 ⟨rfl,hP8,hk8,-⟩;rw [show (ByteArray.mk #[117,115,116,97,114,0,48,48]).data.toList=ustarB from rfl,put_zero (i:=9) (t:=ustarB) rfl (Nat.le_refl 8)] at hP8
         have HK8:=Lib.hid (HKT.out 9 _ _ (by omega) HK7.out hk8)
         obtain ⟨own,hown⟩:∃ own,own=upd (upd (upd (upd (upd (numO h zeroO) 0 (padTo (wideF 0) s)) 10 (padTo (wideF 10) p)) 7 (padTo (wideF 7) [h.kind])) 8 (padTo (wideF 8) h.link)) 9 (padTo (wideF 9) ustarB):=⟨_,rfl⟩;rw [← hown] at hP8
         have ho1:own=own1 h p s:=by
          have hf1:=own1_field h p s;refine fits_ext hP8.fit (own1_fits hsl hpl hlk HOK.out) fun i hi => ?_
          rw [hown];rcases cases11 hi with rfl | rfl | rfl | rfl | rfl | rfl | rfl | rfl | rfl | rfl | rfl
          ·rw [hf1.1];rfl
          ·rw [hf1.2.2.2.2.2.2 1 (by omega) (by omega)];rfl
          ·rw [hf1.2.2.2.2.2.2 2 (by omega) (by omega)];rfl
          ·rw [hf1.2.2.2.2.2.2 3 (by omega) (by omega)];rfl
          ·rw [hf1.2.2.2.2.2.2 4 (by omega) (by omega)];rfl
          ·rw [hf1.2.2.2.2.2.2 5 (by omega) (by omega)];rfl
          ·rw [hf1.2.1];rfl
          ·rw [hf1.2.2.1];rfl
          ·rw [hf1.2.2.2.1];rfl
          ·rw [hf1.2.2.2.2.1];rfl
          ·rw [hf1.2.2.2.2.2.1];rfl
         rw [ho1] at hP8;have HP8:=Lib.hid hP8;clear hP8 hk8 hown ho1 own
         go_wp2_with fail
         refine (block_any lo B r (own1 h p s) w8 HP8.out).mono ?_
         rintro e w9 ⟨g1,rfl,hR9,hg9,hk9⟩;have HP9:=Lib.hid (HP8.out.kept0 hk9);have HK9:=Lib.hid (HK8.out.trans hk9);have hb9:=hR9.bat;rw [blockA_length] at hb9;have HB9:=Lib.hid hb9;clear hR9 hg9 hk9 hb9
         have hS:((plainTo (blockA (own1 h p s)) 512:Nat):Int) - (plainTo (own1 h p s 6) 8:Nat)+256=(sumTo (blockA (own1 h p s)) 512:Nat):=by
          have h1:=sum_parts (bs:=blockA (own1 h p s));rw [field_blockA HP9.out.fit (by omega)] at h1
          omega
         have hSL:=sumTo_le (blockA (own1 h p s)) 512;obtain ⟨S,hSd⟩:∃ S,S=sumTo (blockA (own1 h p s)) 512:=⟨_,rfl⟩;rw [← hSd] at hS hSL;have HS:=Lib.hid hS;have HSD:=Lib.hid hSd;clear hS hSd
         go_wp2_with fail
         refine (sum_any lo B r (own1 h p s) _ 512 512 (blockA (own1 h p s)) w9 (by omega) HB9.out HP9.out).mono ?_
         rintro e w9' ⟨rfl,rfl⟩;rw [HS.out]
         go_wp2_with fail
         refine (put_any (S:Int) 7 w9 (WalkArith.wf_i64 (by omega)) (by decide)).mono ?_
         rintro e w10 ⟨hb10,(⟨l,v,hl,rfl,hown⟩ | ⟨hl,rfl⟩)⟩
         ·obtain ⟨p10,c10,rfl,hc10,hm10,hbat,_⟩:=put_bat rfl hl hown
          rw [putF_sum (by omega)] at hl
          have hl:=Option.some.inj hl;have hl7:l.length=7:=by rw [← hl];simp [putD_length]
          have hk10:Kept noneB w9 w10:=Kept.of_below hb10 _;have HP10:=Lib.hid (HP9.out.kept0 hk10);have HK10:=Lib.hid (HK9.out.trans hk10);have cs:(convert 24 9 (.slice p10 l.length c10)).run Tryz.prog w10=.ok (.string (str (bytesOf l))) w10:=conv_at hbat (by rw [bytesOf_length]) _ _ _ Tryz.underlying24 Tryz.underlying5 Tryz.underlying9 c10
          have hsz:(str (bytesOf l)).size=7:=by rw [str_size,bytesOf_length,hl7]
          have HL:=Lib.hid hl;have HL7:=Lib.hid hl7;clear hl hl7 hown hc10 hm10 hbat hb10 hk10
          go_wp2_with fail
          refine (put_field lo B r _ 6 _ w10 (by omega) HP10.out).mono ?_
          rintro e w11 ⟨rfl,hP11,hk11,-⟩
          have e6:(str (bytesOf l)++⟨#[32]⟩).data.toList=sumB S:=by
           rw [show (⟨#[32]⟩:ByteArray)=str [32] from rfl,str_app',str_data,sumB,HL.out]
          rw [e6,List.take_of_length_le (by rw [sumB_length];exact Nat.le_refl _),putInto_all (by rw [sumB_length,(own1_field h p s).2.1];rfl),HSD.out] at hP11
          have HP11:=Lib.hid (show PartsAt w11 lo B r (own2 h p s) from hP11)
          have HK11:=Lib.hid (HKT.out 6 _ _ (by omega) HK10.out hk11)
          clear hP11 hk11 e6 cs
          go_wp2_with fail
          refine (block_any lo B r (own2 h p s) w11 HP11.out).mono ?_
          rintro e w12 ⟨g2,rfl,hR12,hg12,hk12⟩;have HR12:=Lib.hid hR12;have HG12:Hid (w.heap.size≤g2):=Lib.hid (Nat.le_trans (Nat.le_trans HW.out.size HK11.out.size) hg12);have HK12:=Lib.hid (HK11.out.trans hk12);have HPR:=Lib.hid (putR_ok HCUT.out HBAD.out HOK.out);clear hR12 hg12 hk12
          go_wp2
          go_ret2
          exact ⟨HW.out.trans HK12.out,Or.inl ⟨_,g2,HPR.out,rfl,HR12.out,HG12.out⟩⟩
         ·exfalso
          rw [putF_sum (by omega)] at hl
          cases hl
        ·have HR:Hid (putR h=none):=Lib.hid (putR_num hno)
         have HK3:=Lib.hid (HK2.out.then hk3 (fun k hk => Or.inl (by
          obtain ⟨i,hi,rfl⟩:=hk
          exact HROW.out i hi)))
         clear hno hk3 c2
         go_wp2
         go_ret2
         exact ⟨HW.out.trans HK3.out,Or.inr ⟨HR.out,rfl⟩⟩
     ·have hlk2:100 < h.link.length:=by omega
      have HR:Hid (putR h=none):=Lib.hid (putR_bad (by unfold badH;simp [hlk2]))
      rw [hgn'] at c1;clear hgn hgn' hk0
      go_wp2
      go_ret2
      exact ⟨HW.out.trans HK1.out,Or.inr ⟨HR.out,rfl⟩⟩
end Go.Proofs.YtnpkcneojilmkaaGreatDoor.Head
end
section
namespace Go.Proofs.YtnpkcneojilmkaaGreatDoor.Head
open Go.ChangeShapes Go.WideShapes Go.ChangeAt Go.RowKit Base Byt Txt Hp Go.Proofs.YtnpkcneojilmkaaGreatDoor.Mp Fp Go.Proofs.YtnpkcneojilmkaaGreatDoor.Field Go.Lib
set_option linter.unusedVariables false
set_option maxRecDepth 100000
theorem zero_any (p:Option Addr) (n c:Nat) (bs:List UInt8) (w:World) (hm:n≤140737488351232) (h:BAt w p n bs) :
 Calls Tryz.prog 52 #[.slice p n c] w fun e w' => e=.returned (.bool (((plainTo bs n:Nat):Int) == 0))∧w=w':=by
 have H:=Lib.hid h;clear h
 go_enter Tryz.func52,Tryz.ntmps52
 go_wp2_with fail
 refine (total_any p n c bs w hm H.out).mono ?_
 rintro e w1 ⟨rfl,rfl⟩
 go_wp2
 go_ret
 exact ⟨rfl,rfl⟩
end Go.Proofs.YtnpkcneojilmkaaGreatDoor.Head
end
