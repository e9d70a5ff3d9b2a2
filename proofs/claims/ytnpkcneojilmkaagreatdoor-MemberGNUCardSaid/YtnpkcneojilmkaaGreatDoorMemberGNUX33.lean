/- Texts of this seat, merged: what the proof reaches. -/
import Derived.Test.YtnpkcneojilmkaaGreatDoorMemberGNUX32
import Derived.Test.YtnpkcneojilmkaaGreatDoorMemberGNUX30
import Derived.Deep.LoopGhost
section
namespace Go.Proofs.YtnpkcneojilmkaaGreatDoor.Mem
open Go.ChangeShapes Go.WideShapes Go.ChangeAt Go.RowKit Base Byt Txt Bk Mk Block Hp Head Attr Rec Path Go.Lib Go.Shelf
set_option linter.unusedVariables false
set_option maxRecDepth 100000
section
variable {w0 w w':World} {K:RK} {a:Nat} {s:RS} {mb:Option Nat} {v:Value} {xs:List MP} {q:Option Addr} {n c:Nat}
set_option maxHeartbeats 2000000 in
theorem next_ext120 (hr:Rd w0 w K a s mb v xs q n c) (X:List UInt8) (hX:(K.S.bs.drop a).take 512=X) (hl:a+512≤K.S.n) (hz:zeroB X=false) (h:HeadV) (hh:headR X=(h,0)) (hkd:h.kind=120) (hN:Need w0) :
 Calls Tryz.prog 34 #[.pointer (some ⟨K.r,0,none⟩)] w fun e w' => ∃ E,e=.returned (.tuple #[.bool true,.int .i64 E])∧StepPost w0 K a (extD (K.S.bs.drop a) h s) (.returned (.int .i64 E)) w':=by
 obtain ⟨t,hs⟩:=hr.src;have hXl:X.length=512:=by rw [← hX,List.length_take,List.length_drop,hs.len];omega
 have HR:=Lib.hid hr;have x0:=hr.c0;have hB:=blk_ok w K.g a t K.S hs hr.off X hX hl;have HXL:=Lib.hid hXl;have HZ:=Lib.hid hz;have HH:=Lib.hid hh;have hbd:=headR_bd X;rw [hh] at hbd;obtain ⟨b0,b1,b2⟩:=hbd;have HBD:=Lib.hid (And.intro b0 (And.intro b1 b2));have HND:=Lib.hid hN;obtain ⟨kn,hkn⟩:∃ kn:Int,(h.kind.toNat:Int)=kn:=⟨_,rfl⟩;obtain rfl:kn=120:=by rw [← hkn,hkd];rfl
 have HK:=Lib.hid hkd;clear hkd;clear hr hs hl hX hXl hz hh b0 b1 b2 hN;have HKN:=Lib.hid hkn;clear hkn
 go_enter Tryz.func34,Tryz.ntmps34
 go_wp2_with fail
 refine hB.mono ?_
 rintro e w1 ⟨p,cc,t',rfl,hc1,hc2,h3,h4,h5⟩;have F:=Lib.hid (HR.out.moved h5 ⟨t',h4⟩);have HB1:=Lib.hid h3;have HC1:=Lib.hid (And.intro hc1 hc2);clear h3 h4 h5 hB x0 hc1 hc2
 go_wp2_with fail
 refine (zero512_any p cc X w1 HXL.out HB1.out).mono ?_
 rw [HZ.out];rintro e w2 ⟨rfl,rfl⟩
 go_wp2_with fail
 refine (parseH_any p 512 cc X w1 HXL.out HC1.out.1 HC1.out.2 HB1.out).mono ?_
 rw [HH.out];unfold headA headC;simp only [HKN.out];rintro e w3 ⟨rfl,hk3⟩;have hG:=(F.out.idle hk3).below ((Below.refl _ w3).alloc (Nat.le_refl _) (.cells #[.string (str h.name),.string (str h.link),.int .u8 120,.int .i64 h.mode,.int .i64 h.uid,.int .i64 h.gid,.int .i64 h.time,.int .i64 h.size,.bool h.gnu] 41));have b1:=Blk.new w3 41 #[.string (str h.name),.string (str h.link),.int .u8 120,.int .i64 h.mode,.int .i64 h.uid,.int .i64 h.gid,.int .i64 h.time,.int .i64 h.size,.bool h.gnu];have d0:=b1.cell 0;have d1:=b1.cell 1;have d2:=b1.cell 2;have d3:=b1.cell 3;have d4:=b1.cell 4
 have d5:=b1.cell 5;have d6:=b1.cell 6;have d7:=b1.cell 7;have d8:=b1.cell 8;simp only [List.getElem?_toArray,List.getElem?_cons_zero,List.getElem?_cons_succ] at d0 d1 d2 d3 d4 d5 d6 d7 d8;have G:=Lib.hid hG;clear hk3 b1 hG
 go_wp2_with fail
 refine (show Calls _ _ #[.pointer (some ⟨K.r,0,none⟩),.agg #[.string (str h.name),.string (str h.link),.int .u8 120,.int .i64 h.mode,.int .i64 h.uid,.int .i64 h.gid,.int .i64 h.time,.int .i64 h.size,.bool h.gnu]] _ (StepPost w0 K a (extD (K.S.bs.drop a) h s)) from by
  have:=ext_any G.out h HBD.out.1 (by rw [HK.out];rfl) HND.out
  unfold headC at this;rw [HKN.out] at this
  exact this).mono ?_
 intro e w4 hp
 obtain ⟨E,rfl⟩:∃ E,e=.returned (.int .i64 E):=by
  revert hp
  cases extD (K.S.bs.drop a) h s with
  | fault er => exact fun hp => ⟨er,hp.1⟩
  | done => exact fun hp => hp.elim
  | next k s' => exact fun hp => ⟨0,hp.1⟩
 have HP:=Lib.hid hp;clear hp
 go_wp2
 go_ret2
 exact ⟨E,rfl,HP.out⟩
set_option maxHeartbeats 2000000 in
theorem next_ext103 (hr:Rd w0 w K a s mb v xs q n c) (X:List UInt8) (hX:(K.S.bs.drop a).take 512=X) (hl:a+512≤K.S.n) (hz:zeroB X=false) (h:HeadV) (hh:headR X=(h,0)) (hkd:h.kind=103) (hN:Need w0) :
 Calls Tryz.prog 34 #[.pointer (some ⟨K.r,0,none⟩)] w fun e w' => ∃ E,e=.returned (.tuple #[.bool true,.int .i64 E])∧StepPost w0 K a (extD (K.S.bs.drop a) h s) (.returned (.int .i64 E)) w':=by
 obtain ⟨t,hs⟩:=hr.src;have hXl:X.length=512:=by rw [← hX,List.length_take,List.length_drop,hs.len];omega
 have HR:=Lib.hid hr;have x0:=hr.c0;have hB:=blk_ok w K.g a t K.S hs hr.off X hX hl;have HXL:=Lib.hid hXl;have HZ:=Lib.hid hz;have HH:=Lib.hid hh;have hbd:=headR_bd X;rw [hh] at hbd;obtain ⟨b0,b1,b2⟩:=hbd;have HBD:=Lib.hid (And.intro b0 (And.intro b1 b2));have HND:=Lib.hid hN;obtain ⟨kn,hkn⟩:∃ kn:Int,(h.kind.toNat:Int)=kn:=⟨_,rfl⟩;obtain rfl:kn=103:=by rw [← hkn,hkd];rfl
 have HK:=Lib.hid hkd;clear hkd;clear hr hs hl hX hXl hz hh b0 b1 b2 hN;have HKN:=Lib.hid hkn;clear hkn
 go_enter Tryz.func34,Tryz.ntmps34
 go_wp2_with fail
 refine hB.mono ?_
 rintro e w1 ⟨p,cc,t',rfl,hc1,hc2,h3,h4,h5⟩;have F:=Lib.hid (HR.out.moved h5 ⟨t',h4⟩);have HB1:=Lib.hid h3;have HC1:=Lib.hid (And.intro hc1 hc2);clear h3 h4 h5 hB x0 hc1 hc2
 go_wp2_with fail
 refine (zero512_any p cc X w1 HXL.out HB1.out).mono ?_
 rw [HZ.out];rintro e w2 ⟨rfl,rfl⟩
 go_wp2_with fail
 refine (parseH_any p 512 cc X w1 HXL.out HC1.out.1 HC1.out.2 HB1.out).mono ?_
 rw [HH.out];unfold headA headC;simp only [HKN.out];rintro e w3 ⟨rfl,hk3⟩;have hG:=(F.out.idle hk3).below ((Below.refl _ w3).alloc (Nat.le_refl _) (.cells #[.string (str h.name),.string (str h.link),.int .u8 103,.int .i64 h.mode,.int .i64 h.uid,.int .i64 h.gid,.int .i64 h.time,.int .i64 h.size,.bool h.gnu] 41));have b1:=Blk.new w3 41 #[.string (str h.name),.string (str h.link),.int .u8 103,.int .i64 h.mode,.int .i64 h.uid,.int .i64 h.gid,.int .i64 h.time,.int .i64 h.size,.bool h.gnu];have d0:=b1.cell 0;have d1:=b1.cell 1;have d2:=b1.cell 2;have d3:=b1.cell 3;have d4:=b1.cell 4
 have d5:=b1.cell 5;have d6:=b1.cell 6;have d7:=b1.cell 7;have d8:=b1.cell 8;simp only [List.getElem?_toArray,List.getElem?_cons_zero,List.getElem?_cons_succ] at d0 d1 d2 d3 d4 d5 d6 d7 d8;have G:=Lib.hid hG;clear hk3 b1 hG
 go_wp2_with fail
 refine (show Calls _ _ #[.pointer (some ⟨K.r,0,none⟩),.agg #[.string (str h.name),.string (str h.link),.int .u8 103,.int .i64 h.mode,.int .i64 h.uid,.int .i64 h.gid,.int .i64 h.time,.int .i64 h.size,.bool h.gnu]] _ (StepPost w0 K a (extD (K.S.bs.drop a) h s)) from by
  have:=ext_any G.out h HBD.out.1 (by rw [HK.out];rfl) HND.out
  unfold headC at this;rw [HKN.out] at this
  exact this).mono ?_
 intro e w4 hp
 obtain ⟨E,rfl⟩:∃ E,e=.returned (.int .i64 E):=by
  revert hp
  cases extD (K.S.bs.drop a) h s with
  | fault er => exact fun hp => ⟨er,hp.1⟩
  | done => exact fun hp => hp.elim
  | next k s' => exact fun hp => ⟨0,hp.1⟩
 have HP:=Lib.hid hp;clear hp
 go_wp2
 go_ret2
 exact ⟨E,rfl,HP.out⟩
set_option maxHeartbeats 2000000 in
theorem next_ext76 (hr:Rd w0 w K a s mb v xs q n c) (X:List UInt8) (hX:(K.S.bs.drop a).take 512=X) (hl:a+512≤K.S.n) (hz:zeroB X=false) (h:HeadV) (hh:headR X=(h,0)) (hkd:h.kind=76) (hN:Need w0) :
 Calls Tryz.prog 34 #[.pointer (some ⟨K.r,0,none⟩)] w fun e w' => ∃ E,e=.returned (.tuple #[.bool true,.int .i64 E])∧StepPost w0 K a (extD (K.S.bs.drop a) h s) (.returned (.int .i64 E)) w':=by
 obtain ⟨t,hs⟩:=hr.src;have hXl:X.length=512:=by rw [← hX,List.length_take,List.length_drop,hs.len];omega
 have HR:=Lib.hid hr;have x0:=hr.c0;have hB:=blk_ok w K.g a t K.S hs hr.off X hX hl;have HXL:=Lib.hid hXl;have HZ:=Lib.hid hz;have HH:=Lib.hid hh;have hbd:=headR_bd X;rw [hh] at hbd;obtain ⟨b0,b1,b2⟩:=hbd;have HBD:=Lib.hid (And.intro b0 (And.intro b1 b2));have HND:=Lib.hid hN;obtain ⟨kn,hkn⟩:∃ kn:Int,(h.kind.toNat:Int)=kn:=⟨_,rfl⟩;obtain rfl:kn=76:=by rw [← hkn,hkd];rfl
 have HK:=Lib.hid hkd;clear hkd;clear hr hs hl hX hXl hz hh b0 b1 b2 hN;have HKN:=Lib.hid hkn;clear hkn
 go_enter Tryz.func34,Tryz.ntmps34
 go_wp2_with fail
 refine hB.mono ?_
 rintro e w1 ⟨p,cc,t',rfl,hc1,hc2,h3,h4,h5⟩;have F:=Lib.hid (HR.out.moved h5 ⟨t',h4⟩);have HB1:=Lib.hid h3;have HC1:=Lib.hid (And.intro hc1 hc2);clear h3 h4 h5 hB x0 hc1 hc2
 go_wp2_with fail
 refine (zero512_any p cc X w1 HXL.out HB1.out).mono ?_
 rw [HZ.out];rintro e w2 ⟨rfl,rfl⟩
 go_wp2_with fail
 refine (parseH_any p 512 cc X w1 HXL.out HC1.out.1 HC1.out.2 HB1.out).mono ?_
 rw [HH.out];unfold headA headC;simp only [HKN.out];rintro e w3 ⟨rfl,hk3⟩;have hG:=(F.out.idle hk3).below ((Below.refl _ w3).alloc (Nat.le_refl _) (.cells #[.string (str h.name),.string (str h.link),.int .u8 76,.int .i64 h.mode,.int .i64 h.uid,.int .i64 h.gid,.int .i64 h.time,.int .i64 h.size,.bool h.gnu] 41));have b1:=Blk.new w3 41 #[.string (str h.name),.string (str h.link),.int .u8 76,.int .i64 h.mode,.int .i64 h.uid,.int .i64 h.gid,.int .i64 h.time,.int .i64 h.size,.bool h.gnu];have d0:=b1.cell 0;have d1:=b1.cell 1;have d2:=b1.cell 2;have d3:=b1.cell 3;have d4:=b1.cell 4
 have d5:=b1.cell 5;have d6:=b1.cell 6;have d7:=b1.cell 7;have d8:=b1.cell 8;simp only [List.getElem?_toArray,List.getElem?_cons_zero,List.getElem?_cons_succ] at d0 d1 d2 d3 d4 d5 d6 d7 d8;have G:=Lib.hid hG;clear hk3 b1 hG
 go_wp2_with fail
 refine (show Calls _ _ #[.pointer (some ⟨K.r,0,none⟩),.agg #[.string (str h.name),.string (str h.link),.int .u8 76,.int .i64 h.mode,.int .i64 h.uid,.int .i64 h.gid,.int .i64 h.time,.int .i64 h.size,.bool h.gnu]] _ (StepPost w0 K a (extD (K.S.bs.drop a) h s)) from by
  have:=ext_any G.out h HBD.out.1 (by rw [HK.out];rfl) HND.out
  unfold headC at this;rw [HKN.out] at this
  exact this).mono ?_
 intro e w4 hp
 obtain ⟨E,rfl⟩:∃ E,e=.returned (.int .i64 E):=by
  revert hp
  cases extD (K.S.bs.drop a) h s with
  | fault er => exact fun hp => ⟨er,hp.1⟩
  | done => exact fun hp => hp.elim
  | next k s' => exact fun hp => ⟨0,hp.1⟩
 have HP:=Lib.hid hp;clear hp
 go_wp2
 go_ret2
 exact ⟨E,rfl,HP.out⟩
set_option maxHeartbeats 2000000 in
theorem next_ext75 (hr:Rd w0 w K a s mb v xs q n c) (X:List UInt8) (hX:(K.S.bs.drop a).take 512=X) (hl:a+512≤K.S.n) (hz:zeroB X=false) (h:HeadV) (hh:headR X=(h,0)) (hkd:h.kind=75) (hN:Need w0) :
 Calls Tryz.prog 34 #[.pointer (some ⟨K.r,0,none⟩)] w fun e w' => ∃ E,e=.returned (.tuple #[.bool true,.int .i64 E])∧StepPost w0 K a (extD (K.S.bs.drop a) h s) (.returned (.int .i64 E)) w':=by
 obtain ⟨t,hs⟩:=hr.src;have hXl:X.length=512:=by rw [← hX,List.length_take,List.length_drop,hs.len];omega
 have HR:=Lib.hid hr;have x0:=hr.c0;have hB:=blk_ok w K.g a t K.S hs hr.off X hX hl;have HXL:=Lib.hid hXl;have HZ:=Lib.hid hz;have HH:=Lib.hid hh;have hbd:=headR_bd X;rw [hh] at hbd;obtain ⟨b0,b1,b2⟩:=hbd;have HBD:=Lib.hid (And.intro b0 (And.intro b1 b2));have HND:=Lib.hid hN;obtain ⟨kn,hkn⟩:∃ kn:Int,(h.kind.toNat:Int)=kn:=⟨_,rfl⟩;obtain rfl:kn=75:=by rw [← hkn,hkd];rfl
 have HK:=Lib.hid hkd;clear hkd;clear hr hs hl hX hXl hz hh b0 b1 b2 hN;have HKN:=Lib.hid hkn;clear hkn
 go_enter Tryz.func34,Tryz.ntmps34
 go_wp2_with fail
 refine hB.mono ?_
 rintro e w1 ⟨p,cc,t',rfl,hc1,hc2,h3,h4,h5⟩;have F:=Lib.hid (HR.out.moved h5 ⟨t',h4⟩);have HB1:=Lib.hid h3;have HC1:=Lib.hid (And.intro hc1 hc2);clear h3 h4 h5 hB x0 hc1 hc2
 go_wp2_with fail
 refine (zero512_any p cc X w1 HXL.out HB1.out).mono ?_
 rw [HZ.out];rintro e w2 ⟨rfl,rfl⟩
 go_wp2_with fail
 refine (parseH_any p 512 cc X w1 HXL.out HC1.out.1 HC1.out.2 HB1.out).mono ?_
 rw [HH.out];unfold headA headC;simp only [HKN.out];rintro e w3 ⟨rfl,hk3⟩;have hG:=(F.out.idle hk3).below ((Below.refl _ w3).alloc (Nat.le_refl _) (.cells #[.string (str h.name),.string (str h.link),.int .u8 75,.int .i64 h.mode,.int .i64 h.uid,.int .i64 h.gid,.int .i64 h.time,.int .i64 h.size,.bool h.gnu] 41));have b1:=Blk.new w3 41 #[.string (str h.name),.string (str h.link),.int .u8 75,.int .i64 h.mode,.int .i64 h.uid,.int .i64 h.gid,.int .i64 h.time,.int .i64 h.size,.bool h.gnu];have d0:=b1.cell 0;have d1:=b1.cell 1;have d2:=b1.cell 2;have d3:=b1.cell 3;have d4:=b1.cell 4
 have d5:=b1.cell 5;have d6:=b1.cell 6;have d7:=b1.cell 7;have d8:=b1.cell 8;simp only [List.getElem?_toArray,List.getElem?_cons_zero,List.getElem?_cons_succ] at d0 d1 d2 d3 d4 d5 d6 d7 d8;have G:=Lib.hid hG;clear hk3 b1 hG
 go_wp2_with fail
 refine (show Calls _ _ #[.pointer (some ⟨K.r,0,none⟩),.agg #[.string (str h.name),.string (str h.link),.int .u8 75,.int .i64 h.mode,.int .i64 h.uid,.int .i64 h.gid,.int .i64 h.time,.int .i64 h.size,.bool h.gnu]] _ (StepPost w0 K a (extD (K.S.bs.drop a) h s)) from by
  have:=ext_any G.out h HBD.out.1 (by rw [HK.out];rfl) HND.out
  unfold headC at this;rw [HKN.out] at this
  exact this).mono ?_
 intro e w4 hp
 obtain ⟨E,rfl⟩:∃ E,e=.returned (.int .i64 E):=by
  revert hp
  cases extD (K.S.bs.drop a) h s with
  | fault er => exact fun hp => ⟨er,hp.1⟩
  | done => exact fun hp => hp.elim
  | next k s' => exact fun hp => ⟨0,hp.1⟩
 have HP:=Lib.hid hp;clear hp
 go_wp2
 go_ret2
 exact ⟨E,rfl,HP.out⟩
set_option maxHeartbeats 2000000 in
theorem next_add (hr:Rd w0 w K a s mb v xs q n c) (X:List UInt8) (hX:(K.S.bs.drop a).take 512=X) (hl:a+512≤K.S.n) (hz:zeroB X=false) (h:HeadV) (hh:headR X=(h,0)) (hkd:isExt h.kind=false) (hN:Need w0) :
 Calls Tryz.prog 34 #[.pointer (some ⟨K.r,0,none⟩)] w fun e w' => ∃ E,e=.returned (.tuple #[.bool true,.int .i64 E])∧StepPost w0 K a (memD (K.S.bs.drop a) h s) (.returned (.int .i64 E)) w':=by
 obtain ⟨t,hs⟩:=hr.src;have hXl:X.length=512:=by rw [← hX,List.length_take,List.length_drop,hs.len];omega
 have HR:=Lib.hid hr;have x0:=hr.c0;have hB:=blk_ok w K.g a t K.S hs hr.off X hX hl;have HXL:=Lib.hid hXl;have HZ:=Lib.hid hz;have HH:=Lib.hid hh;have hbd:=headR_bd X;rw [hh] at hbd;obtain ⟨b0,b1,b2⟩:=hbd;have HBD:=Lib.hid (And.intro b0 (And.intro b1 b2));have HND:=Lib.hid hN;obtain ⟨kn,hkn⟩:∃ kn:Int,(h.kind.toNat:Int)=kn:=⟨_,rfl⟩
 have e4:(kn == 120)=false∧(kn == 103)=false∧(kn == 76)=false∧(kn == 75)=false:=by
  have hu:=fun m hm => u8_lit h.kind m hm
  unfold isExt at hkd;simp only [Bool.or_eq_false_iff,beq_eq_false_iff_ne] at hkd;obtain ⟨⟨⟨k1,k2⟩,k3⟩,k4⟩:=hkd;simp only [beq_eq_false_iff_ne];exact ⟨fun e => k1 ((hu 120 (by decide)).1 (hkn.trans e)),fun e => k2 ((hu 103 (by decide)).1 (hkn.trans e)),fun e => k3 ((hu 76 (by decide)).1 (hkn.trans e)),fun e => k4 ((hu 75 (by decide)).1 (hkn.trans e))⟩
 obtain ⟨e1,e2,e3,e4⟩:=e4;clear hkd;clear hr hs hl hX hXl hz hh b0 b1 b2 hN;have HKN:=Lib.hid hkn;clear hkn
 go_enter Tryz.func34,Tryz.ntmps34
 go_wp2_with fail
 refine hB.mono ?_
 rintro e w1 ⟨p,cc,t',rfl,hc1,hc2,h3,h4,h5⟩;have F:=Lib.hid (HR.out.moved h5 ⟨t',h4⟩);have HB1:=Lib.hid h3;have HC1:=Lib.hid (And.intro hc1 hc2);clear h3 h4 h5 hB x0 hc1 hc2
 go_wp2_with fail
 refine (zero512_any p cc X w1 HXL.out HB1.out).mono ?_
 rw [HZ.out];rintro e w2 ⟨rfl,rfl⟩
 go_wp2_with fail
 refine (parseH_any p 512 cc X w1 HXL.out HC1.out.1 HC1.out.2 HB1.out).mono ?_
 rw [HH.out];unfold headA headC;simp only [HKN.out];rintro e w3 ⟨rfl,hk3⟩;have hG:=(F.out.idle hk3).below ((Below.refl _ w3).alloc (Nat.le_refl _) (.cells #[.string (str h.name),.string (str h.link),.int .u8 kn,.int .i64 h.mode,.int .i64 h.uid,.int .i64 h.gid,.int .i64 h.time,.int .i64 h.size,.bool h.gnu] 41));have b1:=Blk.new w3 41 #[.string (str h.name),.string (str h.link),.int .u8 kn,.int .i64 h.mode,.int .i64 h.uid,.int .i64 h.gid,.int .i64 h.time,.int .i64 h.size,.bool h.gnu];have d0:=b1.cell 0;have d1:=b1.cell 1;have d2:=b1.cell 2;have d3:=b1.cell 3;have d4:=b1.cell 4
 have d5:=b1.cell 5;have d6:=b1.cell 6;have d7:=b1.cell 7;have d8:=b1.cell 8;simp only [List.getElem?_toArray,List.getElem?_cons_zero,List.getElem?_cons_succ] at d0 d1 d2 d3 d4 d5 d6 d7 d8;have G:=Lib.hid hG;clear hk3 b1 hG
 go_wp2_with fail
 refine (show Calls _ _ #[.pointer (some ⟨K.r,0,none⟩),.agg #[.string (str h.name),.string (str h.link),.int .u8 kn,.int .i64 h.mode,.int .i64 h.uid,.int .i64 h.gid,.int .i64 h.time,.int .i64 h.size,.bool h.gnu]] _ (StepPost w0 K a (memD (K.S.bs.drop a) h s)) from by
  have:=add_any G.out h HND.out HBD.out.1 (by have:=HBD.out.2.1;omega) (by have:=HBD.out.2.2;omega)
  unfold headC at this;rw [HKN.out] at this
  exact this).mono ?_
 intro e w4 hp
 obtain ⟨E,rfl⟩:∃ E,e=.returned (.int .i64 E):=by
  revert hp
  cases memD (K.S.bs.drop a) h s with
  | fault er => exact fun hp => ⟨er,hp.1⟩
  | done => exact fun hp => hp.elim
  | next k s' => exact fun hp => ⟨0,hp.1⟩
 have HP:=Lib.hid hp;clear hp
 go_wp2
 go_ret2
 exact ⟨E,rfl,HP.out⟩
theorem next_of {st:Step} (hd:st ≠ .done) (h:Calls Tryz.prog 34 #[.pointer (some ⟨K.r,0,none⟩)] w fun e w' => ∃ E,e=.returned (.tuple #[.bool true,.int .i64 E])∧StepPost w0 K a st (.returned (.int .i64 E)) w') :
 Calls Tryz.prog 34 #[.pointer (some ⟨K.r,0,none⟩)] w (NextPost w0 K a s mb v xs q n c st):=by
 refine h.mono ?_
 rintro e w' ⟨E,rfl,hp⟩
 cases st with
 | fault er =>
   obtain ⟨h1,h2⟩:=hp;simp only [Ending.returned.injEq,Value.int.injEq,true_and] at h1;subst h1;exact ⟨⟨true,rfl⟩,h2⟩
 | done => exact absurd rfl hd
 | next k s' =>
   obtain ⟨h1,h2⟩:=hp;simp only [Ending.returned.injEq,Value.int.injEq,true_and] at h1;subst h1;exact ⟨rfl,h2⟩
theorem extD_done (l:List UInt8) (h:HeadV) (s:RS):extD l h s ≠ .done:=by
 unfold extD
 split
 ·exact fun h => by cases h
 ·split
  ·exact fun h => by cases h
  ·split
   ·exact fun h => by cases h
   ·split
    ·exact fun h => by cases h
    ·split
     ·exact fun h => by cases h
     ·split
      ·exact fun h => by cases h
      ·split<;>exact fun h => by cases h
theorem memD_done (l:List UInt8) (h:HeadV) (s:RS):memD l h s ≠ .done:=by
 unfold memD
 split
 ·exact fun h => by cases h
 ·split
  ·exact fun h => by cases h
  ·split
   ·exact fun h => by cases h
   ·split<;>exact fun h => by cases h
theorem next_any (hr:Rd w0 w K a s mb v xs q n c) (hN:Need w0) :
 Calls Tryz.prog 34 #[.pointer (some ⟨K.r,0,none⟩)] w (NextPost w0 K a s mb v xs q n c (stepD (K.S.bs.drop a) s)):=by
 obtain ⟨t,hs⟩:=hr.src;have hlen:=hs.len;have hle:=hs.le;have hLL:(K.S.bs.drop a).length=K.S.n - a:=by rw [List.length_drop,hlen]
 unfold stepD
 by_cases h1:(K.S.bs.drop a).length < 512
 ·rw [if_pos h1]
  exact (next_short hr (by omega)).mono fun e w' h => ⟨⟨false,h.1⟩,h.2⟩
 ·rw [if_neg h1]
  have hl:a+512≤K.S.n:=by omega
  obtain ⟨X,hX⟩:∃ X,(K.S.bs.drop a).take 512=X:=⟨_,rfl⟩;rw [hX]
  by_cases h2:zeroB X=true
  ·rw [if_pos h2]
   refine (next_end hr X hX hl h2).mono ?_
   rintro e w' ⟨rfl,a',hR⟩;unfold endE;rw [List.drop_drop,hLL,Nat.sub_sub,show (K.S.bs.drop (a+512)).length=K.S.n - (a+512) by rw [List.length_drop,hlen]]
   by_cases h3:K.S.n - (a+512) < 512
   ·rw [if_pos h3,if_pos h3]
    exact ⟨⟨false,rfl⟩,hR.bel⟩
   ·rw [if_neg h3,if_neg h3]
    by_cases h4:zeroB (K.S.bs.drop (a+512))=false
    ·rw [if_pos h4,if_pos h4]
     exact ⟨⟨false,rfl⟩,hR.bel⟩
    ·rw [if_neg h4,if_neg h4]
     by_cases h5:s.hasX=true ∨ s.name.isSome=true ∨ s.link.isSome=true
     ·rw [if_pos h5,if_pos h5]
      exact ⟨⟨false,rfl⟩,hR.bel⟩
     ·rw [if_neg h5,if_neg h5]
      exact ⟨rfl,a',hR⟩
  ·rw [if_neg h2]
   have h2':zeroB X=false:=by simpa using h2
   by_cases h3:(headR X).2≠0
   ·rw [if_pos h3]
    exact (next_nohead hr X hX hl h2' h3).mono fun e w' h => ⟨⟨false,h.1⟩,h.2⟩
   ·rw [if_neg h3]
    have h4:headR X=((headR X).1,0):=Prod.ext rfl (Classical.byContradiction h3)
    by_cases h5:isExt (headR X).1.kind=true
    ·rw [if_pos h5]
     refine next_of (extD_done _ _ _) ?_
     have h6:=h5;unfold isExt at h6;simp only [Bool.or_eq_true,beq_iff_eq] at h6;rcases h6 with ((h6 | h6) | h6) | h6
     ·exact next_ext120 hr X hX hl h2' _ h4 h6 hN
     ·exact next_ext103 hr X hX hl h2' _ h4 h6 hN
     ·exact next_ext76 hr X hX hl h2' _ h4 h6 hN
     ·exact next_ext75 hr X hX hl h2' _ h4 h6 hN
    ·rw [if_neg h5]
     exact next_of (memD_done _ _ _) (next_add hr X hX hl h2' _ h4 (by simpa using h5) hN)
end
end Go.Proofs.YtnpkcneojilmkaaGreatDoor.Mem
end
section
namespace Go.Proofs.YtnpkcneojilmkaaGreatDoor.Mem
open Go.ChangeShapes Go.WideShapes Go.ChangeAt Go.RowKit Base Byt Txt Bk Mk Block Hp Head Attr Rec Path Go.Lib Go.Shelf
set_option linter.unusedVariables false
set_option maxRecDepth 100000
theorem ret_fault {fn:Func} (hf:fn.results=#[.tmp 4,.cell 5 44]) (tmps:Array Value) (w:World) (g:Nat) (v:Value) (ht:tmps.getD 5 undef=.pointer (some ⟨g,0,none⟩)) (hv:tmps.getD 4 undef=v)
 (a b:Int) (hb:Blk w g 44 #[.int .i64 a,.int .i64 b]):(results fn tmps).run Tryz.prog w=.ok (.tuple #[v,.agg #[.int .i64 a,.int .i64 b]]) w:=by
 have c0:=hb.cell 0;have c1:=hb.cell 1;simp only [List.getElem?_toArray,List.getElem?_cons_zero,List.getElem?_cons_succ] at c0 c1;have hl:(loadVar 44 ⟨g,0,none⟩).run Tryz.prog w=.ok (.agg #[.int .i64 a,.int .i64 b]) w:=by go_simp
 have ht':tmps[5]?.getD undef=.pointer (some ⟨g,0,none⟩):=by simpa using ht
 have hv':tmps[4]?.getD undef=v:=by simpa using hv
 simp only [results,hf];simp [Result.andThen,ht',hv',asAddr,hl]
theorem bat_off_blk {w:World} {p:Option Addr} {n:Nat} {bs:List UInt8} {b:Nat} {t:TypeId} {cs:Array Value} (h:BAt w p n bs) (hb:Blk w b t cs) (hs:∀ (i:Nat) (x:Int),cs[i]? ≠ some (.int .u8 x)) (h0:0 < n) {y:Addr} (hy:p=some y):y.block≠b:=by
 obtain ⟨b',o,rfl,_,hc⟩:=h.cell h0
 cases hy
 rintro rfl;have c0:=hc 0 h0;rw [hb.cell] at c0;exact hs _ _ c0
def ReadD (w:World) (bs:List UInt8) (e:Ending) (w':World):Prop:=
 ∃ (p:Option Addr) (c:Nat) (xs:List MP),e=.returned (.tuple #[.slice p xs.length c,.agg #[.int .i64 (membersD bs).2.1,.int .i64 ((membersD bs).2.2:Nat)]])∧xs.length≤c∧c≤maxLen∧xs.map MP.m=(membersD bs).1∧MemsAt w' p xs.length xs∧Below w.heap.size w w'
set_option maxHeartbeats 4000000 in
theorem memRead_any (w:World) (p:Option Addr) (n c:Nat) (bs:List UInt8) (q:Option Addr) (m d:Nat) (zs:List Int) (hb:BAt w p n bs) (hl:bs.length=n) (hn:n≤140737488351232) (hq:IAt w q m zs) (hz:zs.length=m) (hm:m * 8≤140737488351232) (hN:Need w) :
 Calls Tryz.prog 15 #[.slice p n c,.slice q m d] w (ReadD w bs):=by
 obtain ⟨W1,hW1⟩:∃ W1,w.alloc (.cells #[.int .i64 0,.int .i64 0] 44)=W1:=⟨_,rfl⟩;have hB1:Below w.heap.size w W1:=by rw [← hW1];exact (Below.refl _ w).alloc (Nat.le_refl _) _
 have hX1:Blk W1 w.heap.size 44 #[.int .i64 0,.int .i64 0]:=by rw [← hW1];exact Blk.new w _ _
 have hNR:=newReader_any W1 p n c bs q m d zs (hb.below hB1) hl hn (hq.kept (Kept.of_below hB1 noneB) (fun _ _ _ => id)) hz hm
 have HB1:=Lib.hid hB1;have HX1:=Lib.hid hX1;have HND:=Lib.hid (hN.below hB1);have HLN:=Lib.hid hl;clear hb hl hn hq hz hm hN hB1 hX1
 go_enter Tryz.func15,Tryz.ntmps15
 go_upto_region 1 with fail
 clear hW1
 go_wp2_with fail
 refine hNR.mono ?_
 rintro e w2 ⟨K,rfl,hbs,hR⟩;have HBS:=Lib.hid hbs;have HR:=Lib.hid hR;clear hbs hR hNR
 go_wp2_with fail
 go_loopg [7,8,9] bs.length (fun g s7 s8 s9 wr => Hid (∃ (a:Nat) (s:RS) (mb:Option Nat) (v:Value) (xs:List MP) (q:Option Addr) (n c:Nat),Rd W1 wr K a s mb v xs q n c∧readFrom bs 0 startS=readFrom (bs.drop a) a s∧g=bs.length - a))
 case atStart => exact Lib.hid ⟨0,startS,none,.slice none 0 0,[],none,0,0,HR.out,by rw [List.drop_zero],rfl⟩
 case round =>
  obtain ⟨a,s,mb,v,xs,q,n,c,hR,hrf,rfl⟩:=hrel.out;obtain ⟨t,hs⟩:=hR.src;have hP:=place_any wr K.g a t K.S hs;have hNx:=next_any hR HND.out;rw [HBS.out] at hNx;have x0:=hR.c0;have HRD:=Lib.hid hR;have HRF:=Lib.hid hrf;obtain ⟨st,hst⟩:∃ st,stepD (bs.drop a) s=st:=⟨_,rfl⟩;rw [hst] at hNx;have HST:=Lib.hid hst;have hXr:=HX1.out.below hR.bel HX1.out.lt;clear hR hrf hs hst hrel
  go_wp2_with fail
  refine hP.mono ?_
  rintro e w3 ⟨rfl,rfl⟩
  go_wp2_with fail
  refine hNx.mono ?_
  clear hNx hP hXr;intro e w4 hp
  cases st with
  | fault er =>
    obtain ⟨⟨b,rfl⟩,hb4⟩:=hp;have hne:=step_fault HST.out;have hE0:(er != 0)=true:=by simpa using hne
    have b4:=HX1.out.below hb4 HX1.out.lt;have r0:=b4.cell 0;have r1:=b4.cell 1;have f0:=b4.frozen 0;have f1:=b4.frozen 1;simp only [List.getElem?_toArray,List.getElem?_cons_zero,List.getElem?_cons_succ] at r0 r1;have HX4:=Lib.hid b4;have HB4:=Lib.hid hb4
    have E:Hid (membersD bs=([],er,a)):=Lib.hid (by
     show readFrom bs 0 startS=_
     rw [HRF.out,readFrom_fault HST.out])
    clear hb4 hne b4 x0
    go_wp2
    refine bodyPost_ret (ret_fault rfl _ _ w.heap.size _ rfl rfl er (a:Int) ((HX4.out.set 0 (.int .i64 er) (by decide:0 < 2)).set 1 (.int .i64 (a:Int)) (by decide:1 < 2))) rfl ?_
    refine ⟨none,0,[],?_,by simp,by decide,?_,mems_nil _ _,?_⟩
    ·rw [E.out];rfl
    ·rw [E.out];rfl
    ·exact ((HB1.out.trans (HB4.out.mono HB1.out.size)).setCell (p:=⟨w.heap.size,0,none⟩) (Nat.le_refl _) _).setCell (p:=⟨w.heap.size,1,none⟩) (Nat.le_refl _) _
  | done =>
    obtain ⟨rfl,a',hR4⟩:=hp;have b4:=HX1.out.below hR4.bel HX1.out.lt;have r0:=b4.cell 0;have r1:=b4.cell 1;have f0:=b4.frozen 0;have f1:=b4.frozen 1;simp only [List.getElem?_toArray,List.getElem?_cons_zero,List.getElem?_cons_succ] at r0 r1;have HX4:=Lib.hid b4;have x3:=hR4.c3;have HR4:=Lib.hid hR4
    have E:Hid (membersD bs=(s.out,0,0)):=Lib.hid (by
     show readFrom bs 0 startS=_
     rw [HRF.out,readFrom_done HST.out])
    clear hR4 b4 x0
    go_wp2
    have hb5:Below w.heap.size w ((w4.setCell ⟨w.heap.size,0,none⟩ (.int .i64 0)).setCell ⟨w.heap.size,1,none⟩ (.int .i64 0)):=
     ((HB1.out.trans (HR4.out.bel.mono HB1.out.size)).setCell (p:=⟨w.heap.size,0,none⟩) (Nat.le_refl _) _).setCell (p:=⟨w.heap.size,1,none⟩) (Nat.le_refl _) _
    refine bodyPost_ret (ret_fault rfl _ _ w.heap.size _ rfl rfl 0 0 ((HX4.out.set 0 (.int .i64 0) (by decide:0 < 2)).set 1 (.int .i64 0) (by decide:1 < 2))) rfl ?_
    have hk5:Kept (oneB w.heap.size) w4 ((w4.setCell ⟨w.heap.size,0,none⟩ (.int .i64 0)).setCell ⟨w.heap.size,1,none⟩ (.int .i64 0)):=
     ((Kept.refl (oneB w.heap.size) w4).setCell (a:=⟨w.heap.size,0,none⟩) (.inr rfl) _).setCell (a:=⟨w.heap.size,1,none⟩) (.inr rfl) _
    have hx1:=HX1.out.lt
    obtain ⟨p5,c5,rfl,h51,h52,h53⟩:=mems_own (ownsRow_kept HR4.out.row hk5 (fun k hk e => by
     have h1:=(HR4.out.row.lt k hk).1;have h2:k=w.heap.size:=e
     omega)) (fun x hx => (HR4.out.bodies x hx).kept hk5 (fun h0 y hy e => bat_off_blk (HR4.out.bodies x hx).bat HX4.out (fun i z hz => by rcases i with _ | _ | i<;>simp at hz) h0 hy e))
    refine ⟨p5,c5,xs,?_,h51,h52,?_,h53,hb5⟩
    ·rw [E.out];rfl
    ·rw [E.out];exact HR4.out.out
  | next k s' =>
    obtain ⟨rfl,mb',v',xs',q',n',c',hR4⟩:=hp;have HR4:=Lib.hid hR4;have hstep:=step_next HST.out
    have E:Hid (readFrom bs 0 startS=readFrom (bs.drop (a+k)) (a+k) s'):=Lib.hid (by
     rw [HRF.out,readFrom_next HST.out,List.drop_drop])
    have HSTEP:=Lib.hid hstep;clear hR4 hstep x0
    go_wp2
    go_roundg (bs.length - (a+k))
    case measure => have:=HSTEP.out;rw [List.length_drop] at this;omega
    case rel => exact Lib.hid ⟨a+k,s',mb',v',xs',q',n',c',HR4.out,E.out,rfl⟩
end Go.Proofs.YtnpkcneojilmkaaGreatDoor.Mem
end
