/- Texts of this seat, merged: what the proof reaches. -/
import Derived.Test.YtnpkcneojilmkaaGreatDoorMemberGNUX29
import Derived.Deep.DeepCutAuto
import Derived.Test.YtnpkcneojilmkaaGreatDoorMemberGNUX18
import Derived.Test.YtnpkcneojilmkaaGreatDoorMemberGNUX26
section
namespace Go.Proofs.YtnpkcneojilmkaaGreatDoor.Mem
open Go.ChangeShapes Go.WideShapes Go.ChangeAt Go.RowKit Base Byt Txt Bk Mk Block Hp Head Attr Rec Go.Lib
set_option linter.unusedVariables false
set_option maxRecDepth 100000
theorem extZero (w:World):(zeroValue 131).run Tryz.prog w=.ok (.agg #[.string ⟨#[]⟩,.slice none 0 0]) w:=Tryz.zeroValue131 w
section
variable {w0 w w':World} {K:RK} {a:Nat} {s:RS} {mb:Option Nat} {v:Value} {xs:List MP} {q:Option Addr} {n c:Nat}
theorem Rd.c0 (h:Rd w0 w K a s mb v xs q n c):w.cell? ⟨K.r,0,none⟩=some (.pointer (some ⟨K.g,0,none⟩)):=h.blk.cell 0
theorem Rd.c1 (h:Rd w0 w K a s mb v xs q n c):w.cell? ⟨K.r,1,none⟩=some (.pointer (some ⟨K.gs,0,none⟩)):=h.blk.cell 1
theorem Rd.c2 (h:Rd w0 w K a s mb v xs q n c):w.cell? ⟨K.r,2,none⟩=some (.map (some K.mw)):=h.blk.cell 2
theorem Rd.c3 (h:Rd w0 w K a s mb v xs q n c):w.cell? ⟨K.r,3,none⟩=some v:=h.blk.cell 3
theorem look_ext (h:MapK u8K w K.mw (waitF s q n c)) (k:UInt8) (m:Int) (hk:(k.toNat:Int)=m) :
 (Instr.lookup 72 (.map (some K.mw)) (.int .u8 m) true).run Tryz.prog w=.ok (.tuple #[(waitF s q n c k).getD (.agg #[.string ⟨#[]⟩,.slice none 0 0]),.bool (waitF s q n c k).isSome]) w:=by
 subst hk;exact h.look_ok Tryz.underlying72 Tryz.underlying5 extZero k
theorem Rd.look76 (h:Rd w0 w K a s mb v xs q n c) :
 (Instr.lookup 72 (.map (some K.mw)) (.int .u8 76) true).run Tryz.prog w=.ok (.tuple #[.agg #[.string (str (s.name.getD [])),.slice none 0 0],.bool s.name.isSome]) w:=by
 rw [look_ext h.map 76 76 rfl];have e:waitF s q n c 76=s.name.map (fun t => .agg #[.string (str t),.slice none 0 0]):=by unfold waitF;rw [if_neg (by decide),if_pos rfl]
 rw [e]
 cases s.name<;>rfl
theorem Rd.look75 (h:Rd w0 w K a s mb v xs q n c) :
 (Instr.lookup 72 (.map (some K.mw)) (.int .u8 75) true).run Tryz.prog w=.ok (.tuple #[.agg #[.string (str (s.link.getD [])),.slice none 0 0],.bool s.link.isSome]) w:=by
 rw [look_ext h.map 75 75 rfl];have e:waitF s q n c 75=s.link.map (fun t => .agg #[.string (str t),.slice none 0 0]):=by unfold waitF;rw [if_neg (by decide),if_neg (by decide),if_pos rfl]
 rw [e]
 cases s.link<;>rfl
theorem ret_head1 {fn:Func} (hf:fn.results=#[.cell 4 41]) (tmps:Array Value) (w:World) (g:Nat) (ht:tmps.getD 4 undef=.pointer (some ⟨g,0,none⟩))
 (h:HeadV) (hb:Blk w g 41 (headC h)):(results fn tmps).run Tryz.prog w=.ok (.agg (headC h)) w:=by
 have hl:=load_head w g _ _ _ _ _ _ _ _ _ hb;have ht':tmps[4]?.getD undef=.pointer (some ⟨g,0,none⟩):=by simpa using ht
 simp only [results,hf];simp [ht',asAddr];rw [hl];rfl
set_option maxHeartbeats 2000000 in
theorem renamed_any (h:HeadV) (hr:Rd w0 w K a s mb v xs q n c) :
 Calls Tryz.prog 84 #[.pointer (some ⟨K.r,0,none⟩),.agg (headC h)] w fun e w' => e=.returned (.agg (headC (renD h s)))∧Below w.heap.size w w':=by
 have HM0:Hid (Mid w ((w.alloc (.cells (headC h) 41)).alloc (.cells (headC zeroH) 41)) h):=by
  have b1:=Blk.new (w.alloc (.cells (headC h) 41)) 41 (headC zeroH);rw [World.size_alloc] at b1;exact Lib.hid ⟨((Below.refl _ w).alloc (Nat.le_refl _) _).alloc (by simp) _,(Blk.new w 41 (headC h)).alloc _,b1⟩
 have HR:=Lib.hid hr;clear hr;obtain ⟨sn,hsn⟩:∃ x,s.name=x:=⟨_,rfl⟩;obtain ⟨sl,hsl⟩:∃ x,s.link=x:=⟨_,rfl⟩;have HSN:=Lib.hid hsn;have HSL:=Lib.hid hsl;clear hsn hsl;obtain ⟨U,hU⟩:∃ U,renD h s=U:=⟨_,rfl⟩;rw [hU];have HU:Hid (U = { h with name:=sn.getD h.name,link:=sl.getD h.link }):=Lib.hid (by rw [← hU,← HSN.out,← HSL.out];rfl)
 clear hU;obtain ⟨W1,hW1⟩:∃ W1,(w.alloc (.cells (headC h) 41)).alloc (.cells (headC zeroH) 41)=W1:=⟨_,rfl⟩;rw [hW1] at HM0
 go_enter Tryz.func84,Tryz.ntmps84
 go_upto_region 1 with fail
 rw [show (w.alloc (.cells (headC h) 41)).alloc (.cells #[.string ⟨#[]⟩,.string ⟨#[]⟩,.int .u8 0,.int .i64 0,.int .i64 0,.int .i64 0,.int .i64 0,.int .i64 0,.bool false] 41)=W1 from hW1]
 have R1:=Lib.hid (HR.out.below HM0.out.1);have x2:=R1.out.c2;have l76:=R1.out.look76;rw [HSN.out] at l76;clear hW1
 cases sn with
 | none =>
   simp only [Option.getD_none,Option.isSome_none] at l76
   cases sl with
   | none =>
     go_upto_region 2 with fail
     clear x2 l76;obtain ⟨W2,hW2⟩:∃ W2,W1.alloc (.cells #[.string (str []),.slice none 0 0] 131)=W2:=⟨_,rfl⟩;have e0:W2.cell? ⟨W1.heap.size,0,none⟩=some (.string (str [])):=by rw [← hW2];exact (Blk.new W1 131 _).cell 0
     have HM2:Hid (Mid w W2 h):=Lib.hid (by rw [← hW2];exact HM0.out.below ((Below.refl _ W1).alloc (Nat.le_refl _) _))
     have R2:=Lib.hid (HR.out.below HM2.out.1);rw [show W1.alloc (.cells #[.string (str []),.slice none 0 0] 131)=W2 from hW2]
     clear hW2
     go_upto_region 4 with fail
     clear e0;obtain ⟨W3,hW3⟩:∃ W3,W2=W3:=⟨_,rfl⟩;have HM3:=HM2;rw [hW3] at HM3 ⊢;clear hW3;have R3:=Lib.hid (HR.out.below HM3.out.1);have x2:=R3.out.c2;have l75:=R3.out.look75;rw [HSL.out] at l75;simp only [Option.getD_none,Option.isSome_none] at l75
     go_upto_region 5 with fail
     clear x2 l75;obtain ⟨W4,hW4⟩:∃ W4,W3.alloc (.cells #[.string (str []),.slice none 0 0] 131)=W4:=⟨_,rfl⟩;have e0:W4.cell? ⟨W3.heap.size,0,none⟩=some (.string (str [])):=by rw [← hW4];exact (Blk.new W3 131 _).cell 0
     have HM4:Hid (Mid w W4 h):=Lib.hid (by rw [← hW4];exact HM3.out.below ((Below.refl _ W3).alloc (Nat.le_refl _) _))
     rw [show W3.alloc (.cells #[.string (str []),.slice none 0 0] 131)=W4 from hW4]
     clear hW4
     go_upto_region 7 with fail
     clear e0;have HM5:=HM4;have b2:=HM5.out.2.2;have r0:=b2.cell 0;have f0:=b2.frozen 0;have r1:=b2.cell 1;have f1:=b2.frozen 1;have r2:=b2.cell 2;have f2:=b2.frozen 2;have r3:=b2.cell 3;have f3:=b2.frozen 3;have r4:=b2.cell 4;have f4:=b2.frozen 4;have r5:=b2.cell 5;have f5:=b2.frozen 5;have r6:=b2.cell 6;have f6:=b2.frozen 6;have r7:=b2.cell 7;have f7:=b2.frozen 7;have r8:=b2.cell 8;have f8:=b2.frozen 8;simp only [headC,zeroH,List.getElem?_toArray,List.getElem?_cons_zero,List.getElem?_cons_succ] at r0 r1 r2 r3 r4 r5 r6 r7 r8;clear b2;have b1:=HM5.out.2.1
     have c0:=b1.cell 0;have c1:=b1.cell 1;have c2:=b1.cell 2;have c3:=b1.cell 3;have c4:=b1.cell 4;have c5:=b1.cell 5;have c6:=b1.cell 6;have c7:=b1.cell 7;have c8:=b1.cell 8;simp only [headC,List.getElem?_toArray,List.getElem?_cons_zero,List.getElem?_cons_succ] at c0 c1 c2 c3 c4 c5 c6 c7 c8;clear b1;have E:Hid (U=h):=Lib.hid (by rw [HU.out];rfl)
     go_wp2
     refine bodyPost_ret (ret_head1 rfl _ _ (w.heap.size+1) rfl h (blk9 HM5.out.2.2 _ _ _ _ _ _ _ _ _)) rfl ?_
     exact ⟨by rw [E.out],below9 HM5.out.1 (by omega) _ _ _ _ _ _ _ _ _⟩
   | some lk =>
     go_upto_region 2 with fail
     clear x2 l76;obtain ⟨W2,hW2⟩:∃ W2,W1.alloc (.cells #[.string (str []),.slice none 0 0] 131)=W2:=⟨_,rfl⟩;have e0:W2.cell? ⟨W1.heap.size,0,none⟩=some (.string (str [])):=by rw [← hW2];exact (Blk.new W1 131 _).cell 0
     have HM2:Hid (Mid w W2 h):=Lib.hid (by rw [← hW2];exact HM0.out.below ((Below.refl _ W1).alloc (Nat.le_refl _) _))
     have R2:=Lib.hid (HR.out.below HM2.out.1);rw [show W1.alloc (.cells #[.string (str []),.slice none 0 0] 131)=W2 from hW2]
     clear hW2
     go_upto_region 4 with fail
     clear e0;obtain ⟨W3,hW3⟩:∃ W3,W2=W3:=⟨_,rfl⟩;have HM3:=HM2;rw [hW3] at HM3 ⊢;clear hW3;have R3:=Lib.hid (HR.out.below HM3.out.1);have x2:=R3.out.c2;have l75:=R3.out.look75;rw [HSL.out] at l75;simp only [Option.getD_some,Option.isSome_some] at l75
     go_upto_region 5 with fail
     clear x2 l75;obtain ⟨W4,hW4⟩:∃ W4,W3.alloc (.cells #[.string (str lk),.slice none 0 0] 131)=W4:=⟨_,rfl⟩;have e0:W4.cell? ⟨W3.heap.size,0,none⟩=some (.string (str lk)):=by rw [← hW4];exact (Blk.new W3 131 _).cell 0
     have HM4:Hid (Mid w W4 h):=Lib.hid (by rw [← hW4];exact HM3.out.below ((Below.refl _ W3).alloc (Nat.le_refl _) _))
     rw [show W3.alloc (.cells #[.string (str lk),.slice none 0 0] 131)=W4 from hW4]
     clear hW4;have b1:=HM4.out.2.1;have y1:=b1.cell 1;have g1:=b1.frozen 1;simp only [headC,List.getElem?_toArray,List.getElem?_cons_zero,List.getElem?_cons_succ] at y1;clear b1
     go_upto_region 7 with fail
     have HM5:Hid (Mid w (W4.setCell ⟨w.heap.size,1,none⟩ (.string (str lk))) { h with link:=lk }):=Lib.hid (HM4.out.put (h':={ h with link:=lk }) ((Kept.refl (oneB w.heap.size) W4).setCell (a:=⟨w.heap.size,1,none⟩) (.inr rfl) _) (HM4.out.2.1.set 1 _ (by show 1 < 9;decide)))
     clear y1 g1 e0;obtain ⟨W5,hW5⟩:∃ W5,W4.setCell ⟨w.heap.size,1,none⟩ (.string (str lk))=W5:=⟨_,rfl⟩;rw [hW5] at HM5 ⊢;clear hW5;have b2:=HM5.out.2.2;have r0:=b2.cell 0;have f0:=b2.frozen 0;have r1:=b2.cell 1;have f1:=b2.frozen 1;have r2:=b2.cell 2;have f2:=b2.frozen 2;have r3:=b2.cell 3;have f3:=b2.frozen 3;have r4:=b2.cell 4;have f4:=b2.frozen 4;have r5:=b2.cell 5;have f5:=b2.frozen 5;have r6:=b2.cell 6;have f6:=b2.frozen 6;have r7:=b2.cell 7;have f7:=b2.frozen 7;have r8:=b2.cell 8;have f8:=b2.frozen 8;simp only [headC,zeroH,List.getElem?_toArray,List.getElem?_cons_zero,List.getElem?_cons_succ] at r0 r1 r2 r3 r4 r5 r6 r7 r8
     clear b2;have b1:=HM5.out.2.1;have c0:=b1.cell 0;have c1:=b1.cell 1;have c2:=b1.cell 2;have c3:=b1.cell 3;have c4:=b1.cell 4;have c5:=b1.cell 5;have c6:=b1.cell 6;have c7:=b1.cell 7;have c8:=b1.cell 8;simp only [headC,List.getElem?_toArray,List.getElem?_cons_zero,List.getElem?_cons_succ] at c0 c1 c2 c3 c4 c5 c6 c7 c8;clear b1;have E:Hid (U = { h with link:=lk }):=Lib.hid (by rw [HU.out];rfl)
     go_wp2
     refine bodyPost_ret (ret_head1 rfl _ _ (w.heap.size+1) rfl { h with link:=lk } (blk9 HM5.out.2.2 _ _ _ _ _ _ _ _ _)) rfl ?_
     exact ⟨by rw [E.out],below9 HM5.out.1 (by omega) _ _ _ _ _ _ _ _ _⟩
 | some nm =>
   simp only [Option.getD_some,Option.isSome_some] at l76
   cases sl with
   | none =>
     go_upto_region 2 with fail
     clear x2 l76;obtain ⟨W2,hW2⟩:∃ W2,W1.alloc (.cells #[.string (str nm),.slice none 0 0] 131)=W2:=⟨_,rfl⟩;have e0:W2.cell? ⟨W1.heap.size,0,none⟩=some (.string (str nm)):=by rw [← hW2];exact (Blk.new W1 131 _).cell 0
     have HM2:Hid (Mid w W2 h):=Lib.hid (by rw [← hW2];exact HM0.out.below ((Below.refl _ W1).alloc (Nat.le_refl _) _))
     have R2:=Lib.hid (HR.out.below HM2.out.1);rw [show W1.alloc (.cells #[.string (str nm),.slice none 0 0] 131)=W2 from hW2]
     clear hW2;have b1:=HM2.out.2.1;have y0:=b1.cell 0;have g0:=b1.frozen 0;simp only [headC,List.getElem?_toArray,List.getElem?_cons_zero] at y0;clear b1
     go_upto_region 4 with fail
     have HM3:Hid (Mid w (W2.setCell ⟨w.heap.size,0,none⟩ (.string (str nm))) { h with name:=nm }):=Lib.hid (HM2.out.put (h':={ h with name:=nm }) ((Kept.refl (oneB w.heap.size) W2).setCell (a:=⟨w.heap.size,0,none⟩) (.inr rfl) _) (HM2.out.2.1.set 0 _ (by show 0 < 9;decide)))
     clear y0 g0 e0;obtain ⟨W3,hW3⟩:∃ W3,W2.setCell ⟨w.heap.size,0,none⟩ (.string (str nm))=W3:=⟨_,rfl⟩;rw [hW3] at HM3 ⊢;clear hW3;have R3:=Lib.hid (HR.out.below HM3.out.1);have x2:=R3.out.c2;have l75:=R3.out.look75;rw [HSL.out] at l75;simp only [Option.getD_none,Option.isSome_none] at l75
     go_upto_region 5 with fail
     clear x2 l75;obtain ⟨W4,hW4⟩:∃ W4,W3.alloc (.cells #[.string (str []),.slice none 0 0] 131)=W4:=⟨_,rfl⟩;have e0:W4.cell? ⟨W3.heap.size,0,none⟩=some (.string (str [])):=by rw [← hW4];exact (Blk.new W3 131 _).cell 0
     have HM4:Hid (Mid w W4 { h with name:=nm }):=Lib.hid (by rw [← hW4];exact HM3.out.below ((Below.refl _ W3).alloc (Nat.le_refl _) _))
     rw [show W3.alloc (.cells #[.string (str []),.slice none 0 0] 131)=W4 from hW4]
     clear hW4
     go_upto_region 7 with fail
     clear e0;have HM5:=HM4;have b2:=HM5.out.2.2;have r0:=b2.cell 0;have f0:=b2.frozen 0;have r1:=b2.cell 1;have f1:=b2.frozen 1;have r2:=b2.cell 2;have f2:=b2.frozen 2;have r3:=b2.cell 3;have f3:=b2.frozen 3;have r4:=b2.cell 4;have f4:=b2.frozen 4;have r5:=b2.cell 5;have f5:=b2.frozen 5;have r6:=b2.cell 6;have f6:=b2.frozen 6;have r7:=b2.cell 7;have f7:=b2.frozen 7;have r8:=b2.cell 8;have f8:=b2.frozen 8;simp only [headC,zeroH,List.getElem?_toArray,List.getElem?_cons_zero,List.getElem?_cons_succ] at r0 r1 r2 r3 r4 r5 r6 r7 r8;clear b2;have b1:=HM5.out.2.1
     have c0:=b1.cell 0;have c1:=b1.cell 1;have c2:=b1.cell 2;have c3:=b1.cell 3;have c4:=b1.cell 4;have c5:=b1.cell 5;have c6:=b1.cell 6;have c7:=b1.cell 7;have c8:=b1.cell 8;simp only [headC,List.getElem?_toArray,List.getElem?_cons_zero,List.getElem?_cons_succ] at c0 c1 c2 c3 c4 c5 c6 c7 c8;clear b1;have E:Hid (U = { h with name:=nm }):=Lib.hid (by rw [HU.out];rfl)
     go_wp2
     refine bodyPost_ret (ret_head1 rfl _ _ (w.heap.size+1) rfl { h with name:=nm } (blk9 HM5.out.2.2 _ _ _ _ _ _ _ _ _)) rfl ?_
     exact ⟨by rw [E.out],below9 HM5.out.1 (by omega) _ _ _ _ _ _ _ _ _⟩
   | some lk =>
     go_upto_region 2 with fail
     clear x2 l76;obtain ⟨W2,hW2⟩:∃ W2,W1.alloc (.cells #[.string (str nm),.slice none 0 0] 131)=W2:=⟨_,rfl⟩;have e0:W2.cell? ⟨W1.heap.size,0,none⟩=some (.string (str nm)):=by rw [← hW2];exact (Blk.new W1 131 _).cell 0
     have HM2:Hid (Mid w W2 h):=Lib.hid (by rw [← hW2];exact HM0.out.below ((Below.refl _ W1).alloc (Nat.le_refl _) _))
     have R2:=Lib.hid (HR.out.below HM2.out.1);rw [show W1.alloc (.cells #[.string (str nm),.slice none 0 0] 131)=W2 from hW2]
     clear hW2;have b1:=HM2.out.2.1;have y0:=b1.cell 0;have g0:=b1.frozen 0;simp only [headC,List.getElem?_toArray,List.getElem?_cons_zero] at y0;clear b1
     go_upto_region 4 with fail
     have HM3:Hid (Mid w (W2.setCell ⟨w.heap.size,0,none⟩ (.string (str nm))) { h with name:=nm }):=Lib.hid (HM2.out.put (h':={ h with name:=nm }) ((Kept.refl (oneB w.heap.size) W2).setCell (a:=⟨w.heap.size,0,none⟩) (.inr rfl) _) (HM2.out.2.1.set 0 _ (by show 0 < 9;decide)))
     clear y0 g0 e0;obtain ⟨W3,hW3⟩:∃ W3,W2.setCell ⟨w.heap.size,0,none⟩ (.string (str nm))=W3:=⟨_,rfl⟩;rw [hW3] at HM3 ⊢;clear hW3;have R3:=Lib.hid (HR.out.below HM3.out.1);have x2:=R3.out.c2;have l75:=R3.out.look75;rw [HSL.out] at l75;simp only [Option.getD_some,Option.isSome_some] at l75
     go_upto_region 5 with fail
     clear x2 l75;obtain ⟨W4,hW4⟩:∃ W4,W3.alloc (.cells #[.string (str lk),.slice none 0 0] 131)=W4:=⟨_,rfl⟩;have e0:W4.cell? ⟨W3.heap.size,0,none⟩=some (.string (str lk)):=by rw [← hW4];exact (Blk.new W3 131 _).cell 0
     have HM4:Hid (Mid w W4 { h with name:=nm }):=Lib.hid (by rw [← hW4];exact HM3.out.below ((Below.refl _ W3).alloc (Nat.le_refl _) _))
     rw [show W3.alloc (.cells #[.string (str lk),.slice none 0 0] 131)=W4 from hW4]
     clear hW4;have b1:=HM4.out.2.1;have y1:=b1.cell 1;have g1:=b1.frozen 1;simp only [headC,List.getElem?_toArray,List.getElem?_cons_zero,List.getElem?_cons_succ] at y1;clear b1
     go_upto_region 7 with fail
     have HM5:Hid (Mid w (W4.setCell ⟨w.heap.size,1,none⟩ (.string (str lk))) { h with name:=nm,link:=lk }):=Lib.hid (HM4.out.put (h':={ h with name:=nm,link:=lk }) ((Kept.refl (oneB w.heap.size) W4).setCell (a:=⟨w.heap.size,1,none⟩) (.inr rfl) _) (HM4.out.2.1.set 1 _ (by show 1 < 9;decide)))
     clear y1 g1 e0;obtain ⟨W5,hW5⟩:∃ W5,W4.setCell ⟨w.heap.size,1,none⟩ (.string (str lk))=W5:=⟨_,rfl⟩;rw [hW5] at HM5 ⊢;clear hW5;have b2:=HM5.out.2.2;have r0:=b2.cell 0;have f0:=b2.frozen 0;have r1:=b2.cell 1;have f1:=b2.frozen 1;have r2:=b2.cell 2;have f2:=b2.frozen 2;have r3:=b2.cell 3;have f3:=b2.frozen 3;have r4:=b2.cell 4;have f4:=b2.frozen 4;have r5:=b2.cell 5;have f5:=b2.frozen 5;have r6:=b2.cell 6;have f6:=b2.frozen 6;have r7:=b2.cell 7;have f7:=b2.frozen 7;have r8:=b2.cell 8;have f8:=b2.frozen 8;simp only [headC,zeroH,List.getElem?_toArray,List.getElem?_cons_zero,List.getElem?_cons_succ] at r0 r1 r2 r3 r4 r5 r6 r7 r8
     clear b2;have b1:=HM5.out.2.1;have c0:=b1.cell 0;have c1:=b1.cell 1;have c2:=b1.cell 2;have c3:=b1.cell 3;have c4:=b1.cell 4;have c5:=b1.cell 5;have c6:=b1.cell 6;have c7:=b1.cell 7;have c8:=b1.cell 8;simp only [headC,List.getElem?_toArray,List.getElem?_cons_zero,List.getElem?_cons_succ] at c0 c1 c2 c3 c4 c5 c6 c7 c8;clear b1;have E:Hid (U = { h with name:=nm,link:=lk }):=Lib.hid (by rw [HU.out];rfl)
     go_wp2
     refine bodyPost_ret (ret_head1 rfl _ _ (w.heap.size+1) rfl { h with name:=nm,link:=lk } (blk9 HM5.out.2.2 _ _ _ _ _ _ _ _ _)) rfl ?_
     exact ⟨by rw [E.out],below9 HM5.out.1 (by omega) _ _ _ _ _ _ _ _ _⟩
end
end Go.Proofs.YtnpkcneojilmkaaGreatDoor.Mem
end
section
namespace Go.Proofs.YtnpkcneojilmkaaGreatDoor.Mem
open Go.ChangeShapes Go.WideShapes Go.ChangeAt Go.RowKit Base Byt Txt Bk Mk Block Hp Head Attr Rec Go.Lib
set_option linter.unusedVariables false
set_option maxRecDepth 100000
theorem zero512_any (p:Option Addr) (c:Nat) (X:List UInt8) (w:World) (hl:X.length=512) (h:BAt w p 512 X) :
 Calls Tryz.prog 52 #[.slice p 512 c] w fun e w' => e=.returned (.bool (zeroB X))∧w=w':=by
 have:=zero_any p 512 c X w (by omega) h
 rwa [plain_zeroB hl] at this
def endE (l2:List UInt8) (s:RS):Int:=if l2.length < 512 then 2 else if zeroB l2=false then 9 else if s.hasX=true ∨ s.name.isSome=true ∨ s.link.isSome=true then 5 else 0
theorem zeroB_two (l:List UInt8):zeroB l=(zeroB (l.take 512) && zeroB (l.drop 512)):=by
 conv => lhs;rw [← List.take_append_drop 512 l]
 unfold zeroB;rw [List.all_append]
section
variable {w0 w w':World} {K:RK} {a:Nat} {s:RS} {mb:Option Nat} {v:Value} {xs:List MP} {q:Option Addr} {n c:Nat}
theorem wait_none (s:RS) (q:Option Addr) (n c:Nat):(∀ x,waitF s q n c x=none) ↔ ¬ (s.hasX=true ∨ s.name.isSome=true ∨ s.link.isSome=true):=by
 constructor
 ·intro h e
  have h0:=h 120;have h1:=h 76;have h2:=h 75;unfold waitF at h0 h1 h2;rw [if_pos rfl] at h0;rw [if_neg (by decide),if_pos rfl] at h1
  rw [if_neg (by decide),if_neg (by decide),if_pos rfl] at h2
  rcases e with e | e | e
  ·rw [if_pos e] at h0
   cases h0
  ·obtain ⟨x,hx⟩:=Option.isSome_iff_exists.1 e
   rw [hx] at h1
   cases h1
  ·obtain ⟨x,hx⟩:=Option.isSome_iff_exists.1 e
   rw [hx] at h2
   cases h2
 ·intro h k
  have h1:s.hasX=false:=by
   cases hx:s.hasX with
   | false => rfl
   | true => exact absurd (.inl hx) h
  have h2:s.name=none:=by
   cases hx:s.name with
   | none => rfl
   | some t => exact absurd (.inr (.inl (by rw [hx];rfl))) h
  have h3:s.link=none:=by
   cases hx:s.link with
   | none => rfl
   | some t => exact absurd (.inr (.inr (by rw [hx];rfl))) h
  unfold waitF;rw [h1,h2,h3];simp
def EndPost (w0:World) (K:RK) (a:Nat) (s:RS) (mb:Option Nat) (v:Value) (xs:List MP) (q:Option Addr) (n c:Nat) (r:Int) (e:Ending) (w':World):Prop:=
 e=.returned (.int .i64 r) ∧ ∃ a',Rd w0 w' K a' s mb v xs q n c
set_option maxHeartbeats 2000000 in
theorem end_any (hr:Rd w0 w K a s mb v xs q n c) :
 Calls Tryz.prog 53 #[.pointer (some ⟨K.r,0,none⟩)] w (EndPost w0 K a s mb v xs q n c (endE (K.S.bs.drop a) s)):=by
 obtain ⟨t,hs⟩:=hr.src;have hlen:=hs.len;have hle:=hs.le;have HR:=Lib.hid hr;have HS:=Lib.hid hs;have x0:=hr.c0;have hLL:(K.S.bs.drop a).length=K.S.n - a:=by rw [List.length_drop,hlen]
 obtain ⟨E,hE⟩:∃ E,endE (K.S.bs.drop a) s=E:=⟨_,rfl⟩;rw [hE];unfold endE at hE
 by_cases h1:a=K.S.n
 ·rw [if_pos (by omega)] at hE
  subst hE;have hB:=block_res w K.g a t K.S hs hr.off;rw [show blkR K.S.bs a=(14,[],a) by unfold blkR;rw [if_pos (by omega)]] at hB
  clear hr hs hlen hle hLL h1
  go_enter Tryz.func53,Tryz.ntmps53
  go_wp2_with fail
  refine hB.mono ?_
  rintro e w1 ⟨p,m,cc,t',rfl,h1,h2,h3,h4,h5⟩;have F:=Lib.hid (HR.out.moved h5 ⟨t',h4⟩);clear h1 h2 h3 h4 h5 hB x0
  go_wp2
  go_ret
  exact ⟨rfl,_,F.out⟩
 ·by_cases h2:a+512≤K.S.n
  ·rw [if_neg (by omega),zeroB_two] at hE
   have hB:=block_res w K.g a t K.S hs hr.off;rw [show blkR K.S.bs a=(0,(K.S.bs.drop a).take 512,a+512) by unfold blkR;rw [if_neg (by omega),if_pos (by omega)]] at hB
   obtain ⟨X,hX⟩:∃ X,(K.S.bs.drop a).take 512=X:=⟨_,rfl⟩;have hXl:X.length=512:=by rw [← hX,List.length_take];omega
   rw [hX] at hE hB;obtain ⟨Z,hZ⟩:∃ Z,zeroB X=Z:=⟨_,rfl⟩;obtain ⟨Y,hY⟩:∃ Y,zeroB ((K.S.bs.drop a).drop 512)=Y:=⟨_,rfl⟩;rw [hZ,hY] at hE;rw [List.drop_drop] at hY;have HXL:=Lib.hid hXl;have HZ:=Lib.hid hZ;have HY:=Lib.hid hY;have HE:=Lib.hid hE;clear hr hs hlen hle hLL h1 h2 hX hXl hZ hY hE
   go_enter Tryz.func53,Tryz.ntmps53
   go_wp2_with fail
   refine hB.mono ?_
   rintro e w1 ⟨p,m,cc,t',rfl,h1,h2,h3,h4,h5⟩;obtain rfl:m=512:=by rw [← h1];exact HXL.out
   have F:=Lib.hid (HR.out.moved h5 ⟨t',h4⟩);have HSS:=Lib.hid h4;have HB2:=Lib.hid h2;clear h1 h2 h3 h4 h5 hB x0
   go_wp2_with fail
   refine (zero512_any p cc X w1 HXL.out HB2.out).mono ?_
   rw [HZ.out];rintro e w2 ⟨rfl,rfl⟩
   cases Z with
   | false =>
     have hE:=HE.out;simp only [Bool.false_and,if_true] at hE;subst hE
     go_wp2
     go_ret
     exact ⟨rfl,_,F.out⟩
   | true =>
     have x0:=F.out.c0
     go_wp2_with fail
     refine (rest_any w1 K.g (a+512) t' K.S HSS.out).mono ?_
     rw [show restB (K.S.bs.drop (a+512))=Y from HY.out]
     rintro e w3 ⟨rfl,h6,h7⟩;have F3:=Lib.hid (F.out.moved (h7.of_none _) ⟨t',h6⟩);clear h6 h7 x0
     cases Y with
     | false =>
       have hE:=HE.out;simp only [Bool.and_false,if_true] at hE;subst hE
       go_wp2
       go_ret
       exact ⟨rfl,_,F3.out⟩
     | true =>
       have x2:=F3.out.c2;have hE:=HE.out;rw [if_neg (by decide)] at hE
       have HE:=Lib.hid hE;clear hE;obtain ⟨k,hrun,hk0⟩:=F3.out.map.count Tryz.underlying72 3;have hk:=Lib.hid hk0;clear hk0
       by_cases h0:k=0
       ·have hE:=HE.out
        rw [if_neg ((wait_none _ _ _ _).1 (hk.out.1 h0))] at hE;subst hE h0;clear hk
        go_wp2
        go_ret
        exact ⟨rfl,_,F3.out⟩
       ·have hE:=HE.out
        rw [if_pos (Classical.byContradiction fun hn => h0 (hk.out.2 ((wait_none _ _ _ _).2 hn)))] at hE
        subst hE;have hkp:(0:Int) < (k:Int):=by omega
        clear hk
        go_wp2
        go_ret
        exact ⟨rfl,_,F3.out⟩
  ·rw [if_pos (by omega)] at hE
   subst hE;have hB:=block_res w K.g a t K.S hs hr.off;rw [show blkR K.S.bs a=(2,[],K.S.bs.length) by unfold blkR;rw [if_neg (by omega),if_neg (by omega)]] at hB
   clear hr hs hlen hle hLL h1 h2
   go_enter Tryz.func53,Tryz.ntmps53
   go_wp2_with fail
   refine hB.mono ?_
   rintro e w1 ⟨p,m,cc,t',rfl,h1,h2,h3,h4,h5⟩;have F:=Lib.hid (HR.out.moved h5 ⟨t',h4⟩);clear h1 h2 h3 h4 h5 hB x0
   go_wp2
   go_ret
   exact ⟨rfl,_,F.out⟩
end
end Go.Proofs.YtnpkcneojilmkaaGreatDoor.Mem
end
section
namespace Go.Proofs.YtnpkcneojilmkaaGreatDoor.Mem
open Go.ChangeShapes Go.WideShapes Go.ChangeAt Go.RowKit Base Byt Txt Bk Mk Block Hp Head Attr Rec Go.Lib
set_option linter.unusedVariables false
set_option maxRecDepth 100000
theorem wait_start (q:Option Addr) (n c:Nat):waitF startS q n c=fun _ => none:=by
 funext k
 unfold waitF startS;simp
def NewRd (w:World) (bs:List UInt8) (e:Ending) (w':World):Prop:=
 ∃ K:RK,e=.returned (.pointer (some ⟨K.r,0,none⟩))∧K.S.bs=bs∧Rd w w' K 0 startS none (.slice none 0 0) [] none 0 0
theorem newRd_end {w w1:World} {g:Nat} {S:Sv} (hg:w.heap.size≤g) (ho:S.off g) (hs:Block.Src w1 g S 0 0) (hk:Kept noneB w w1) :
 Rd w (((w1.alloc (.cells #[.map none] 95)).alloc (.map #[] 0)).alloc (.cells #[.pointer (some ⟨g,0,none⟩),.pointer (some ⟨w1.heap.size,0,none⟩),.map (some (w1.heap.size+1)),.slice none 0 0] 74))
  ⟨w1.heap.size+1+1,g,w1.heap.size,w1.heap.size+1,S⟩ 0 startS none (.slice none 0 0) [] none 0 0:=by
 have hgl:=hs.lt
 have hka:Kept noneB w1 (((w1.alloc (.cells #[.map none] 95)).alloc (.map #[] 0)).alloc (.cells #[.pointer (some ⟨g,0,none⟩),.pointer (some ⟨w1.heap.size,0,none⟩),.map (some (w1.heap.size+1)),.slice none 0 0] 74)):=
  (((Kept.refl noneB w1).alloc _).alloc _).alloc _
 have hsz:=hk.size
 have ot:∀ y,y < w1.heap.size → ¬ Ot ⟨w1.heap.size+1+1,g,w1.heap.size,w1.heap.size+1,S⟩ none (.slice none 0 0) y:=fun y hy e => by
  rcases e with e | e | e | e | e
  ·have e:y=w1.heap.size+1+1:=e;omega
  ·have e:y=w1.heap.size:=e;omega
  ·have e:y=w1.heap.size+1:=e;omega
  ·cases e
  ·cases e
 have hst:=(St.new w1).kept (((Kept.refl noneB (w1.alloc (.cells #[.map none] 95))).alloc (.map #[] 0)).alloc (.cells #[.pointer (some ⟨g,0,none⟩),.pointer (some ⟨w1.heap.size,0,none⟩),.map (some (w1.heap.size+1)),.slice none 0 0] 74)) (fun _ _ => id)
 have hmk:=(mapK_made u8K (w1.alloc (.cells #[.map none] 95))).kept ((Kept.refl noneB _).alloc (.cells #[.pointer (some ⟨g,0,none⟩),.pointer (some ⟨w1.heap.size,0,none⟩),.map (some (w1.heap.size+1)),.slice none 0 0] 74)) id;have hbl:=Blk.new ((w1.alloc (.cells #[.map none] 95)).alloc (.map #[] 0)) 74 #[.pointer (some ⟨g,0,none⟩),.pointer (some ⟨w1.heap.size,0,none⟩),.map (some (w1.heap.size+1)),.slice none 0 0];simp only [World.size_alloc] at hmk hbl
 exact {
  bel:=(hk.trans hka).below (Nat.le_refl _) (fun _ h => h.elim)
  blk:=hbl
  src:=⟨0,hs.kept0 hka⟩
  off:=ho
  st:=hst
  map:=by rw [wait_start];exact hmk
  own:=⟨rfl,fun h => by omega⟩
  own0:=fun _ => rfl
  row:=⟨rfl,.inl ⟨rfl,rfl⟩⟩
  out:=rfl
  bodies:=fun x hx => by simp at hx
  apart:=fun x hx => by simp at hx
  sp:=fun h0 y hy => ot _ (bat_lt hs.bat h0 hy)
  sq:=fun h0 y hy => ot _ (iat_lt hs.iat h0 hy)
  ne:=⟨by show w1.heap.size+1+1≠g;omega,by show w1.heap.size+1+1≠w1.heap.size;omega,by show w1.heap.size+1+1≠w1.heap.size+1;omega,by show g≠w1.heap.size;omega,by show g≠w1.heap.size+1;omega,by show w1.heap.size≠w1.heap.size+1;omega⟩
  neB:=fun b hb => by cases hb
  neV:=fun b hb => by cases hb
  base:=⟨by show w.heap.size≤w1.heap.size+1+1;omega,hg,hsz,by show w.heap.size≤w1.heap.size+1;omega⟩
  many:=by show 0≤4096;omega
  gl:=(fun r hr => by cases hr)
  ol:=⟨(fun r hr => by cases hr),by show 0≤1048576;omega⟩
  nl:=fun t ht => by cases ht
  ll:=fun t ht => by cases ht }
theorem newReader_any (w:World) (p:Option Addr) (n c:Nat) (bs:List UInt8) (q:Option Addr) (m d:Nat) (zs:List Int) (hb:BAt w p n bs) (hl:bs.length=n) (hn:n≤140737488351232) (hq:IAt w q m zs) (hz:zs.length=m) (hm:m * 8≤140737488351232) :
 Calls Tryz.prog 32 #[.slice p n c,.slice q m d] w (NewRd w bs):=by
 have hN:=new_any w p n c bs q m d zs hb hl hn hq hz hm;have hmm:=@run_makeMap Tryz.prog;clear hb hl hn hq hz hm
 go_enter Tryz.func32,Tryz.ntmps32
 go_wp2_with fail
 refine hN.mono ?_
 rintro e w1 ⟨g,S,rfl,h1,h2,h3,h4,h5,h6,h7,h8,h9⟩;have F:=Lib.hid (And.intro h2 (newRd_end h1 h5 h8 h9));clear h1 h2 h3 h4 h5 h6 h7 h8 h9 hN
 go_wp2
 go_ret
 exact ⟨⟨w1.heap.size+1+1,g,w1.heap.size,w1.heap.size+1,S⟩,rfl,F.out.1,F.out.2⟩
end Go.Proofs.YtnpkcneojilmkaaGreatDoor.Mem
end
