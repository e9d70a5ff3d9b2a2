/- Texts of this seat, merged: what the proof reaches. -/
import Derived.Test.YtnpkcneojilmkaaGreatDoorWriteManyX33
import Derived.BigRegion
import Derived.BigQuiet
import Derived.Deep.QuietTactic
import Derived.Deep.RegionHeldLaw
import Derived.Test.YtnpkcneojilmkaaGreatDoorWriteManyX23
import Derived.Deep.LoopGhost
import Derived.Test.YtnpkcneojilmkaaGreatDoorWriteManyX32
import Derived.Deep.DeepCutAuto
section
namespace Go.Proofs.YtnpkcneojilmkaaGreatDoor.Mem
open Go.ChangeShapes Go.WideShapes Go.ChangeAt Go.RowKit Base Byt Txt Bk Mk Block Hp Head Attr Rec Path Go.Lib Go.Shelf
set_option linter.unusedVariables false
set_option maxRecDepth 100000
section
variable {w0 w w':World} {K:RK} {a:Nat} {s:RS} {mb:Option Nat} {v:Value} {xs:List MP} {q:Option Addr} {n c:Nat}
theorem Rd.fresh (h:Rd w0 w K a s mb v xs q n c) {b:Nat} (hb:w.heap.size≤b):¬ Ot K mb v b∧b≠K.g:=by
 obtain ⟨t,hs⟩:=h.src;have h1:=h.blk.lt;have h2:=hs.lt;have h3:=h.st.lt;have h4:=h.map.lt;refine ⟨fun e => ?_,by omega⟩
 rcases e with e | e | e | e | e
 ·omega
 ·omega
 ·omega
 ·have:=h.st.ltB e;omega
 ·have:=(h.row.lt b e).2;omega
theorem Rd.foreign {wo:World} {a0:Nat} (ho:Rd w0 wo K a0 s mb v xs q n c) (h:Rd w0 w K a s mb v xs q n c) (hk:Kept (fun k => wo.heap.size≤k) w w'):Rd w0 w' K a s mb v xs q n c:=by
 obtain ⟨t0,hs0⟩:=ho.src;obtain ⟨t,hs⟩:=h.src;have l1:=ho.blk.lt;have l2:=hs0.lt;have l3:=ho.st.lt;have l4:=ho.map.lt;have l5:=ho.bel.size
 exact {
  bel:=h.bel.trans (hk.below h.bel.size (fun k hk => Nat.le_trans l5 hk))
  blk:=h.blk.keptS hk (by omega)
  src:=⟨t,hs.kept hk (by omega) (fun h0 y hy e => by have:=bat_lt hs0.bat h0 hy;omega) (fun h0 y hy e => by have:=iat_lt hs0.iat h0 hy;omega)⟩
  off:=h.off
  st:=h.st.kept hk (fun k hk' e => by
   rcases hk' with rfl | hk'
   ·omega
   ·have:=ho.st.ltB hk';omega)
  map:=h.map.kept hk (by omega)
  own:=recsAt_kept h.own hk (fun h0 y hy e => by
   obtain ⟨b',o,hq,hlt,_⟩:=ho.own.2 h0;rw [hy] at hq
   cases hq
   have e:wo.heap.size≤b':=e
   omega)
  own0:=h.own0
  row:=ownsRow_kept h.row hk (fun k hk' e => by have:=(ho.row.lt k hk').2;omega)
  out:=h.out
  bodies:=fun x hx => (h.bodies x hx).kept hk (fun h0 y hy e => by have:=bat_lt (ho.bodies x hx).bat h0 hy;omega)
  apart:=h.apart
  sp:=h.sp
  sq:=h.sq
  ne:=h.ne
  neB:=h.neB
  neV:=h.neV
  base:=h.base
  many:=h.many
  gl:=h.gl
  ol:=h.ol
  nl:=h.nl
  ll:=h.ll }
set_option maxHeartbeats 4000000 in
theorem add_short (hr:Rd w0 w K (a+512) s mb v xs q n c) (h:HeadV) (hf:s.out.length < 4096) (hk:knownD h.kind=true) (hN:Need w0) (h0:0≤h.size) (h1:h.name.length≤1048576) (h2:h.link.length≤1048576) (ah:HeadV) (hae:applyD (lastD s.glob) s.own (renD h s)=(ah,0)) (hfe0:(fromD ah).2=0) (k:Nat) (hsz:ah.size=(k:Int)) (hkl:k≤1048576) (hl:K.S.n < a+512+padN k) :
 Calls Tryz.prog 56 #[.pointer (some ⟨K.r,0,none⟩),.agg (headC h)] w fun e w' => e=.returned (.int .i64 2)∧Below w0.heap.size w0 w':=by
 obtain ⟨vp,vc,hv,_,_,_⟩:=mems_own hr.row hr.bodies;subst hv;have hxl:xs.length=s.out.length:=by have:=congrArg List.length hr.out;simpa using this
 obtain ⟨W1,hW1⟩:∃ W1,w.alloc (.cells (headC h) 41)=W1:=⟨_,rfl⟩;have hB1:Below w.heap.size w W1:=by rw [← hW1];exact (Below.refl _ w).alloc (Nat.le_refl _) _
 have hX1:Blk W1 w.heap.size 41 (headC h):=by rw [← hW1];exact Blk.new w _ _
 have hR1:=hr.below hB1;have x3:=hR1.c3;have HR:=Lib.hid hr;have HB1:=Lib.hid hB1;have HX1:=Lib.hid hX1;have HR1:=Lib.hid hR1;have HXN:=Lib.hid hxl;clear hr hB1 hX1 hR1;have hnl:((xs.length:Int) == 4096)=false:=by rw [hxl];simpa using (by omega:¬ (s.out.length:Int)=4096)
 clear hxl;have k2:=HX1.out.cell 2;simp only [headC,List.getElem?_toArray,List.getElem?_cons_zero,List.getElem?_cons_succ] at k2;have hkn:=known_any h.kind W1;rw [hk] at hkn;obtain ⟨⟨oq,on,oc⟩,hov⟩:∃ x,ownV s q n c=x:=⟨_,rfl⟩
 have HSS:Hid (∀ wi,Rd w0 wi K (a+512) s mb (.slice vp xs.length vc) xs q n c → ((wi.cell? ⟨K.r,1,none⟩=some (.pointer (some ⟨K.gs,0,none⟩))∧wi.cell? ⟨K.r,2,none⟩=some (.map (some K.mw)))∧(Instr.lookup 72 (.map (some K.mw)) (.int .u8 120) false).run Tryz.prog wi=.ok (.agg #[.string ⟨#[]⟩,.slice oq on oc]) wi)):=
  Lib.hid (fun wi hi => ⟨⟨hi.c1,hi.c2⟩,look120 hi.map hov⟩)
 have HAP:Hid (∀ wi,Rd w0 wi K (a+512) s mb (.slice vp xs.length vc) xs q n c → Calls Tryz.prog 83 #[.pointer (some ⟨K.gs,0,none⟩),.agg (headC (renD h s)),.slice oq on oc] wi fun e w' => e=.returned (.tuple #[.agg (headC ah),.int .i64 0])∧Below wi.heap.size wi w'):=
  Lib.hid (fun wi hi => by have:=apply_rd h hi hov (renD h s);rw [hae] at this;exact this)
 have HPL:=Lib.hid hae;clear hov hae
 have HBD:Hid (0≤ah.size∧ah.name.length≤1048576∧ah.link.length≤1048576):=Lib.hid (by
  have:=apply_bd h HR.out h0 h1 h2;rw [HPL.out] at this
  exact this)
 have HND:=Lib.hid hN;clear hN h0 h1 h2;obtain ⟨⟨fm,fe⟩,hfd⟩:∃ x,fromD ah=x:=⟨_,rfl⟩;have hfb:fm.body=[]:=by have:=fromD_body ah;rw [hfd] at this;exact this
 have HFR:Hid (∀ wi,Tabs wi → Calls Tryz.prog 46 #[.agg (headC ah)] wi fun e w' => e=.returned (.tuple #[.agg #[.string (str fm.path),.string (str fm.target),.int .u8 (fm.kind.toNat:Int),.int .i64 fm.mode,.int .i64 fm.uid,.int .i64 fm.gid,.int .i64 fm.time,.slice none 0 0],.int .i64 fe])∧Below wi.heap.size wi w'):=
  Lib.hid (fun wi hT => by
   obtain ⟨_,b1,b2⟩:=HBD.out;have:=fromHead_any ah wi (by omega) (by omega) hT
   rw [hfd] at this;unfold memC at this;simp only [hfb,List.length_nil] at this
   exact this)
 have HFD:=Lib.hid hfd;have HFB:=Lib.hid hfb;clear hfd hfb;rw [HFD.out] at hfe0;simp only at hfe0;subst hfe0;have HBR:=Lib.hid hl;have HKL:=Lib.hid hkl;have HSZ:=Lib.hid hsz;clear hl hkl hsz
 go_enter Tryz.func56,Tryz.ntmps56
 go_upto_region 1 with fail
 clear hW1
 go_wp2_with fail
 refine hkn.mono ?_
 rintro e w1 ⟨rfl,rfl⟩
 go_upto_region 5 with fail
 refine wp_region_any (by kernel_rfl) (add5_region (w:=w) (w1:=W1) K.r K.gs K.mw w.heap.size h (renD h s) oq on oc ah 0 (show 73≤73 from Nat.le_refl 73) rfl rfl (Nat.le_refl _) HB1.out HX1.out (fun wi hb => HSS.out wi (HR.out.below hb)) (fun wi hb => renamed_any h (HR.out.below hb)) (fun wi hb => HAP.out wi (HR.out.below hb)) ?_)
 intro W5 hb5 hx5;have HB5:=Lib.hid hb5;have HX5:=Lib.hid hx5;have HR5:=Lib.hid (HR.out.below hb5);clear hb5 hx5 k2 x3;simp only [Exit.then]
 apply_assumption
 have b9:=HX5.out;have c0:=b9.cell 0;have c1:=b9.cell 1;have c2:=b9.cell 2;have c3:=b9.cell 3;have c4:=b9.cell 4;have c5:=b9.cell 5;have c6:=b9.cell 6;have c7:=b9.cell 7;have c8:=b9.cell 8;simp only [headC,List.getElem?_toArray,List.getElem?_cons_zero,List.getElem?_cons_succ] at c0 c1 c2 c3 c4 c5 c6 c7 c8;clear b9
 go_wp2_with fail
 refine (HFR.out _ (HR5.out.need HND.out).tabs).mono ?_
 rintro e w6 ⟨rfl,hb6⟩;have hb7:=hb6.alloc hb6.size (.cells #[.string (str fm.path),.string (str fm.target),.int .u8 (fm.kind.toNat:Int),.int .i64 fm.mode,.int .i64 fm.uid,.int .i64 fm.gid,.int .i64 fm.time,.slice none 0 0] 26);have hm7:=Blk.new w6 26 #[.string (str fm.path),.string (str fm.target),.int .u8 (fm.kind.toNat:Int),.int .i64 fm.mode,.int .i64 fm.uid,.int .i64 fm.gid,.int .i64 fm.time,.slice none 0 0];have hw6:w.heap.size < w6.heap.size:=Nat.lt_of_lt_of_le HX5.out.lt hb6.size;have HX7:=Lib.hid (HX5.out.below hb7 HX5.out.lt);have HR7:=Lib.hid (HR5.out.below hb7)
 have HM7:=Lib.hid hm7;have HW6:=Lib.hid hw6;clear hb6 hb7 hm7 hw6 c0 c1 c2 c3 c4 c5 c6 c7 c8;obtain ⟨W7,hW7⟩:∃ W7,w6.alloc (.cells #[.string (str fm.path),.string (str fm.target),.int .u8 (fm.kind.toNat:Int),.int .i64 fm.mode,.int .i64 fm.uid,.int .i64 fm.gid,.int .i64 fm.time,.slice none 0 0] 26)=W7:=⟨_,rfl⟩;rw [hW7] at HX7 HR7 HM7;have HW7:=Lib.hid hW7;clear hW7;have x0:=HR7.out.c0;have z7:=HX7.out.cell 7;simp only [headC,List.getElem?_toArray,List.getElem?_cons_zero,List.getElem?_cons_succ,HSZ.out] at z7;have hRd:=HR7.out.idle ((Kept.refl noneB W7).drew);obtain ⟨t,hs⟩:=hRd.src
 have hne:w.heap.size≠K.g∧w6.heap.size≠K.g:=by
  obtain ⟨t',hs'⟩:=HR.out.src;have:=hs'.lt;have:=HW6.out;exact ⟨by omega,by omega⟩
 have HRD:=Lib.hid hRd;have HNE:=Lib.hid hne;have hB:=body_no W7.drew K.g (a+512) t K.S hs hRd.off k HKL.out HBR.out;clear hs hRd hne
 go_upto_region 11 with fail
 rw [HW7.out]
 go_region_held_law (fun w' => w'.cell? ⟨K.r,0,none⟩=some (.pointer (some ⟨K.g,0,none⟩))∧w'.cell? ⟨w.heap.size,7,none⟩=some (.int .i64 (k:Int))) (first | exact ⟨x0,z7⟩ | exact hS8 | exact hS9)
  (first
   | (go_at_call 79
      refine hB.mono ?_
      rintro e w8 ⟨t',rfl,h4,h5⟩;have H8:=Lib.hid (HRD.out.moved h5 ⟨t',h4⟩);have HX8:Hid (Blk w8 w.heap.size 41 (headC ah)):=Lib.hid ((HX7.out.drew).keptS h5 HNE.out.1);have HM8:Hid (Blk w8 w6.heap.size 26 #[.string (str fm.path),.string (str fm.target),.int .u8 (fm.kind.toNat:Int),.int .i64 fm.mode,.int .i64 fm.uid,.int .i64 fm.gid,.int .i64 fm.time,.slice none 0 0]):=Lib.hid ((HM7.out.drew).keptS h5 HNE.out.2);have HB8:=Lib.hid h5;have hS8:w8.cell? ⟨K.r,0,none⟩=some (.pointer (some ⟨K.g,0,none⟩))∧w8.cell? ⟨w.heap.size,7,none⟩=some (.int .i64 (k:Int)):=⟨H8.out.c0,by have:=HX8.out.cell 7;simp only [headC,List.getElem?_toArray,List.getElem?_cons_zero,List.getElem?_cons_succ,HSZ.out] at this;exact this⟩
      have hS9:(w8.setCell ⟨w6.heap.size,7,none⟩ (.slice none 0 0)).cell? ⟨K.r,0,none⟩=some (.pointer (some ⟨K.g,0,none⟩))∧(w8.setCell ⟨w6.heap.size,7,none⟩ (.slice none 0 0)).cell? ⟨w.heap.size,7,none⟩=some (.int .i64 (k:Int)):=
       ⟨(H8.out.blk.other (b':=w6.heap.size) (i:=7) (by have:=HR.out.blk.lt;have:=HW6.out;omega) _).cell 0,by have:=(HX8.out.other (b':=w6.heap.size) (i:=7) (by have:=HW6.out;omega) (.slice none 0 0)).cell 7;simp only [headC,List.getElem?_toArray,List.getElem?_cons_zero,List.getElem?_cons_succ,HSZ.out] at this;exact this⟩
      have m7:=HM8.out.cell 7;have fm7:=HM8.out.frozen 7;simp only [List.getElem?_toArray,List.getElem?_cons_zero,List.getElem?_cons_succ] at m7
      clear h4 h5))
 clear hB hS8 x0 z7
 go_wp2
 go_ret
 exact ⟨rfl,H8.out.bel.setCell (p:=⟨w6.heap.size,7,none⟩) (Nat.le_trans HR.out.bel.size (Nat.le_of_lt HW6.out)) _⟩
set_option maxHeartbeats 8000000 in
theorem add_ok (hr:Rd w0 w K (a+512) s mb v xs q n c) (h:HeadV) (hf:s.out.length < 4096) (hk:knownD h.kind=true) (hN:Need w0) (h0:0≤h.size) (h1:h.name.length≤1048576) (h2:h.link.length≤1048576) (ah:HeadV) (hae:applyD (lastD s.glob) s.own (renD h s)=(ah,0)) (hfe0:(fromD ah).2=0) (k:Nat) (hsz:ah.size=(k:Int)) (hkl:k≤1048576) (X:List UInt8) (hX:(K.S.bs.drop (a+512)).take k=X) (hl:a+512+padN k≤K.S.n) :
 Calls Tryz.prog 56 #[.pointer (some ⟨K.r,0,none⟩),.agg (headC h)] w fun e w' => e=.returned (.int .i64 0)∧Left w0 K (a+512+padN k) { s with out:=s.out++[{ (fromD ah).1 with body:=X }],own:=[],name:=none,link:=none,hasX:=false } w':=by
 have HXL:Hid (X.length=k):=Lib.hid (by
  obtain ⟨t,hs⟩:=hr.src;have:=padN_ge k;have:=hs.len
  rw [← hX,List.length_take,List.length_drop];omega)
 obtain ⟨vp,vc,hv,_,_,_⟩:=mems_own hr.row hr.bodies;subst hv;have hxl:xs.length=s.out.length:=by have:=congrArg List.length hr.out;simpa using this
 obtain ⟨W1,hW1⟩:∃ W1,w.alloc (.cells (headC h) 41)=W1:=⟨_,rfl⟩;have hB1:Below w.heap.size w W1:=by rw [← hW1];exact (Below.refl _ w).alloc (Nat.le_refl _) _
 have hX1:Blk W1 w.heap.size 41 (headC h):=by rw [← hW1];exact Blk.new w _ _
 have hR1:=hr.below hB1;have x3:=hR1.c3;have HR:=Lib.hid hr;have HB1:=Lib.hid hB1;have HX1:=Lib.hid hX1;have HR1:=Lib.hid hR1;have HXN:=Lib.hid hxl;clear hr hB1 hX1 hR1;have hnl:((xs.length:Int) == 4096)=false:=by rw [hxl];simpa using (by omega:¬ (s.out.length:Int)=4096)
 clear hxl;have k2:=HX1.out.cell 2;simp only [headC,List.getElem?_toArray,List.getElem?_cons_zero,List.getElem?_cons_succ] at k2;have hkn:=known_any h.kind W1;rw [hk] at hkn;obtain ⟨⟨oq,on,oc⟩,hov⟩:∃ x,ownV s q n c=x:=⟨_,rfl⟩
 have HSS:Hid (∀ wi,Rd w0 wi K (a+512) s mb (.slice vp xs.length vc) xs q n c → ((wi.cell? ⟨K.r,1,none⟩=some (.pointer (some ⟨K.gs,0,none⟩))∧wi.cell? ⟨K.r,2,none⟩=some (.map (some K.mw)))∧(Instr.lookup 72 (.map (some K.mw)) (.int .u8 120) false).run Tryz.prog wi=.ok (.agg #[.string ⟨#[]⟩,.slice oq on oc]) wi)):=
  Lib.hid (fun wi hi => ⟨⟨hi.c1,hi.c2⟩,look120 hi.map hov⟩)
 have HAP:Hid (∀ wi,Rd w0 wi K (a+512) s mb (.slice vp xs.length vc) xs q n c → Calls Tryz.prog 83 #[.pointer (some ⟨K.gs,0,none⟩),.agg (headC (renD h s)),.slice oq on oc] wi fun e w' => e=.returned (.tuple #[.agg (headC ah),.int .i64 0])∧Below wi.heap.size wi w'):=
  Lib.hid (fun wi hi => by have:=apply_rd h hi hov (renD h s);rw [hae] at this;exact this)
 have HPL:=Lib.hid hae;clear hov hae
 have HBD:Hid (0≤ah.size∧ah.name.length≤1048576∧ah.link.length≤1048576):=Lib.hid (by
  have:=apply_bd h HR.out h0 h1 h2;rw [HPL.out] at this
  exact this)
 have HND:=Lib.hid hN;clear hN h0 h1 h2;obtain ⟨⟨fm,fe⟩,hfd⟩:∃ x,fromD ah=x:=⟨_,rfl⟩;have hfb:fm.body=[]:=by have:=fromD_body ah;rw [hfd] at this;exact this
 have HFR:Hid (∀ wi,Tabs wi → Calls Tryz.prog 46 #[.agg (headC ah)] wi fun e w' => e=.returned (.tuple #[.agg #[.string (str fm.path),.string (str fm.target),.int .u8 (fm.kind.toNat:Int),.int .i64 fm.mode,.int .i64 fm.uid,.int .i64 fm.gid,.int .i64 fm.time,.slice none 0 0],.int .i64 fe])∧Below wi.heap.size wi w'):=
  Lib.hid (fun wi hT => by
   obtain ⟨_,b1,b2⟩:=HBD.out;have:=fromHead_any ah wi (by omega) (by omega) hT
   rw [hfd] at this;unfold memC at this;simp only [hfb,List.length_nil] at this
   exact this)
 have HFD:=Lib.hid hfd;have HFB:=Lib.hid hfb;clear hfd hfb;rw [HFD.out] at hfe0;simp only at hfe0;subst hfe0;rw [HFD.out];have HF:=Lib.hid hf;have HBR:=Lib.hid (And.intro hX hl);have HKL:=Lib.hid hkl;have HSZ:=Lib.hid hsz;clear hl hkl hsz hX hf
 go_enter Tryz.func56,Tryz.ntmps56
 go_upto_region 1 with fail
 clear hW1
 go_wp2_with fail
 refine hkn.mono ?_
 rintro e w1 ⟨rfl,rfl⟩
 go_upto_region 5 with fail
 refine wp_region_any (by kernel_rfl) (add5_region (w:=w) (w1:=W1) K.r K.gs K.mw w.heap.size h (renD h s) oq on oc ah 0 (show 73≤73 from Nat.le_refl 73) rfl rfl (Nat.le_refl _) HB1.out HX1.out (fun wi hb => HSS.out wi (HR.out.below hb)) (fun wi hb => renamed_any h (HR.out.below hb)) (fun wi hb => HAP.out wi (HR.out.below hb)) ?_)
 intro W5 hb5 hx5;have HB5:=Lib.hid hb5;have HX5:=Lib.hid hx5;have HR5:=Lib.hid (HR.out.below hb5);clear hb5 hx5 k2 x3;simp only [Exit.then]
 apply_assumption
 have b9:=HX5.out;have c0:=b9.cell 0;have c1:=b9.cell 1;have c2:=b9.cell 2;have c3:=b9.cell 3;have c4:=b9.cell 4;have c5:=b9.cell 5;have c6:=b9.cell 6;have c7:=b9.cell 7;have c8:=b9.cell 8;simp only [headC,List.getElem?_toArray,List.getElem?_cons_zero,List.getElem?_cons_succ] at c0 c1 c2 c3 c4 c5 c6 c7 c8;clear b9
 go_wp2_with fail
 refine (HFR.out _ (HR5.out.need HND.out).tabs).mono ?_
 rintro e w6 ⟨rfl,hb6⟩;have hb7:=hb6.alloc hb6.size (.cells #[.string (str fm.path),.string (str fm.target),.int .u8 (fm.kind.toNat:Int),.int .i64 fm.mode,.int .i64 fm.uid,.int .i64 fm.gid,.int .i64 fm.time,.slice none 0 0] 26);have hm7:=Blk.new w6 26 #[.string (str fm.path),.string (str fm.target),.int .u8 (fm.kind.toNat:Int),.int .i64 fm.mode,.int .i64 fm.uid,.int .i64 fm.gid,.int .i64 fm.time,.slice none 0 0];have hw6:w.heap.size < w6.heap.size:=Nat.lt_of_lt_of_le HX5.out.lt hb6.size;have HX7:=Lib.hid (HX5.out.below hb7 HX5.out.lt);have HR7:=Lib.hid (HR5.out.below hb7)
 have HM7:=Lib.hid hm7;have HW6:=Lib.hid hw6;clear hb6 hb7 hm7 hw6 c0 c1 c2 c3 c4 c5 c6 c7 c8;obtain ⟨W7,hW7⟩:∃ W7,w6.alloc (.cells #[.string (str fm.path),.string (str fm.target),.int .u8 (fm.kind.toNat:Int),.int .i64 fm.mode,.int .i64 fm.uid,.int .i64 fm.gid,.int .i64 fm.time,.slice none 0 0] 26)=W7:=⟨_,rfl⟩;rw [hW7] at HX7 HR7 HM7;have HW7:=Lib.hid hW7;clear hW7;have x0:=HR7.out.c0;have z7:=HX7.out.cell 7;simp only [headC,List.getElem?_toArray,List.getElem?_cons_zero,List.getElem?_cons_succ,HSZ.out] at z7;have hRd:=HR7.out.idle ((Kept.refl noneB W7).drew);obtain ⟨t,hs⟩:=hRd.src
 have hne:w.heap.size≠K.g∧w6.heap.size≠K.g:=by
  obtain ⟨t',hs'⟩:=HR.out.src;have:=hs'.lt;have:=HW6.out;exact ⟨by omega,by omega⟩
 have HRD:=Lib.hid hRd;have HNE:=Lib.hid hne;have hB:=body_ok W7.drew K.g (a+512) t K.S hs hRd.off k HKL.out X HBR.out.1 HBR.out.2;clear hs hRd hne
 go_upto_region 11 with fail
 rw [HW7.out]
 go_region_held_law (fun w' => w'.cell? ⟨K.r,0,none⟩=some (.pointer (some ⟨K.g,0,none⟩))∧w'.cell? ⟨w.heap.size,7,none⟩=some (.int .i64 (k:Int))) (first | exact ⟨x0,z7⟩ | exact hS8 | exact hS9)
  (first
   | (go_at_call 79
      refine hB.mono ?_
      rintro e w8 ⟨p,t',rfl,h2,h3,h4,h5⟩;have H8:=Lib.hid (HRD.out.moved h5 ⟨t',h4⟩);have HX8:Hid (Blk w8 w.heap.size 41 (headC ah)):=Lib.hid ((HX7.out.drew).keptS h5 HNE.out.1);have HM8:Hid (Blk w8 w6.heap.size 26 #[.string (str fm.path),.string (str fm.target),.int .u8 (fm.kind.toNat:Int),.int .i64 fm.mode,.int .i64 fm.uid,.int .i64 fm.gid,.int .i64 fm.time,.slice none 0 0]):=Lib.hid ((HM7.out.drew).keptS h5 HNE.out.2);have HB8:=Lib.hid (And.intro h2 h3);have hS8:w8.cell? ⟨K.r,0,none⟩=some (.pointer (some ⟨K.g,0,none⟩))∧w8.cell? ⟨w.heap.size,7,none⟩=some (.int .i64 (k:Int)):=⟨H8.out.c0,by have:=HX8.out.cell 7;simp only [headC,List.getElem?_toArray,List.getElem?_cons_zero,List.getElem?_cons_succ,HSZ.out] at this;exact this⟩
      have hS9:(w8.setCell ⟨w6.heap.size,7,none⟩ (.slice p k k)).cell? ⟨K.r,0,none⟩=some (.pointer (some ⟨K.g,0,none⟩))∧(w8.setCell ⟨w6.heap.size,7,none⟩ (.slice p k k)).cell? ⟨w.heap.size,7,none⟩=some (.int .i64 (k:Int)):=
       ⟨(H8.out.blk.other (b':=w6.heap.size) (i:=7) (by have:=HR.out.blk.lt;have:=HW6.out;omega) _).cell 0,by have:=(HX8.out.other (b':=w6.heap.size) (i:=7) (by have:=HW6.out;omega) (.slice p k k)).cell 7;simp only [headC,List.getElem?_toArray,List.getElem?_cons_zero,List.getElem?_cons_succ,HSZ.out] at this;exact this⟩
      have m7:=HM8.out.cell 7;have fm7:=HM8.out.frozen 7;simp only [List.getElem?_toArray,List.getElem?_cons_zero,List.getElem?_cons_succ] at m7
      clear h2 h3 h4 h5))
 clear hB hS8 x0 z7
 have hm9:Blk (w8.setCell ⟨w6.heap.size,7,none⟩ (.slice p k k)) w6.heap.size 26 (MP.mk { fm with body:=X } p k).cs:=by
  have h9:=HM8.out.set 7 (.slice p k k) (by decide:7 < 8)
  have e:(MP.mk { fm with body:=X } p k).cs=#[.string (str fm.path),.string (str fm.target),.int .u8 (fm.kind.toNat:Int),.int .i64 fm.mode,.int .i64 fm.uid,.int .i64 fm.gid,.int .i64 fm.time,.slice p X.length k]:=rfl
  rw [e,HXL.out];exact h9
 have hk9:Kept (fun k => w.heap.size≤k) w8 (w8.setCell ⟨w6.heap.size,7,none⟩ (.slice p k k)):=(Kept.refl _ w8).setCell (a:=⟨w6.heap.size,7,none⟩) (.inr (Nat.le_of_lt HW6.out)) _
 have hR9:=Rd.foreign HR.out H8.out hk9
 have hb9:BAt (w8.setCell ⟨w6.heap.size,7,none⟩ (.slice p k k)) p k X:=HB8.out.1.kept ((Kept.refl (oneB w6.heap.size) w8).setCell (a:=⟨w6.heap.size,7,none⟩) (.inr rfl) _) (fun _ x hx e => by
  have h1:=HB8.out.2 x hx;have h2:=HM7.out.lt;have h3:x.block=w6.heap.size:=e;have h4:W7.drew.heap.size=W7.heap.size:=rfl
  omega)
 obtain ⟨W9,hW9⟩:∃ W9,w8.setCell ⟨w6.heap.size,7,none⟩ (.slice p k k)=W9:=⟨_,rfl⟩;rw [hW9] at hm9 hR9 hb9;have HW9:=Lib.hid hW9;have HM9:=Lib.hid hm9;have HR9:=Lib.hid hR9;have HB9:=Lib.hid hb9;clear hm9 hR9 hb9 hk9 hS9 m7 fm7 hW9
 go_upto_region 14 with fail
 rw [HW9.out];refine wp_region_any (by kernel_rfl) (add14_region (w1:=W9) w0.heap.size K.r w6.heap.size (.slice vp xs.length vc) xs (MP.mk { fm with body:=X } p k) (readerC K (.slice vp xs.length vc)) (show 73≤73 from Nat.le_refl 73) rfl rfl HM9.out HR9.out.blk rfl (fun e => (HR9.out.neV _ e).1 rfl) HR9.out.row HR9.out.bel.size (by have:=HXN.out;have:=HF.out;omega) ?_)
 intro γ wB hA;obtain ⟨wA,g1,g2,g3,g4⟩:=hA;have hRA:=HR9.out.below g1;have hmap:=hRA.map_added (v':=γ.va) g3;have hkB:Kept (fun k => (Value.slice vp xs.length vc).ownBlock=some k) wA wB:=(Kept.refl _ wA).grown g3 (fun k hk => .inr hk)
 have hbC:=((hRA.blk.keptS hkB (fun e => (hRA.neV _ e).1 rfl)).set 3 γ.va (by decide:3 < 4)).cell 2
 have c2:(wB.setCell ⟨K.r,3,none⟩ γ.va).cell? ⟨K.r,2,none⟩=some (.map (some K.mw)):=hbC;obtain ⟨w2,hrun,hm2,hk2,hs2⟩:=hmap.cleared Tryz.underlying72 0;have hy:BodyAt wA (MP.mk { fm with body:=X } p k):=⟨by show BAt wA p X.length X;rw [HXL.out];exact HB9.out.below g1,by show X.length≤k;rw [HXL.out];exact Nat.le_refl _,by show k≤maxLen;have:=HKL.out;unfold maxLen;omega⟩
 have F:=Lib.hid (hRA.added g2 g3 g4 hy (fun _ z hz => HRD.out.fresh (HB8.out.2 z hz)) HF.out hm2 hk2)
 clear g1 g2 g3 g4 hRA hmap hkB hbC hm2 hk2 hs2 hy;simp only [Exit.then]
 apply_assumption
 go_wp2
 go_ret
 exact ⟨rfl,mb,γ.va,_,none,0,0,F.out⟩
end
end Go.Proofs.YtnpkcneojilmkaaGreatDoor.Mem
end
section
namespace Go.Proofs.YtnpkcneojilmkaaGreatDoor.Mem
open Go.ChangeShapes Go.WideShapes Go.ChangeAt Go.RowKit Base Byt Txt Bk Mk Block Hp Head Attr Rec Path Go.Lib Go.Shelf
set_option linter.unusedVariables false
set_option maxRecDepth 100000
section
variable {w0 w w':World} {K:RK} {a:Nat} {s:RS} {mb:Option Nat} {v:Value} {xs:List MP} {q:Option Addr} {n c:Nat}
theorem known_is (k:UInt8):knownD k=true ↔ ¬ (k≠48∧k≠49∧k≠50∧k≠53):=by
 unfold knownD;simp only [Bool.or_eq_true,beq_iff_eq];constructor
 ·rintro (((h | h) | h) | h) ⟨h1,h2,h3,h4⟩
  ·exact h1 h
  ·exact h2 h
  ·exact h3 h
  ·exact h4 h
 ·intro h
  by_cases h1:k=48
  ·exact .inl (.inl (.inl h1))
  ·by_cases h2:k=49
   ·exact .inl (.inl (.inr h2))
   ·by_cases h3:k=50
    ·exact .inl (.inr h3)
    ·by_cases h4:k=53
     ·exact .inr h4
     ·exact absurd ⟨h1,h2,h3,h4⟩ h
theorem add_any (hr:Rd w0 w K (a+512) s mb v xs q n c) (h:HeadV) (hN:Need w0) (h0:0≤h.size) (h1:h.name.length≤1048576) (h2:h.link.length≤1048576) :
 Calls Tryz.prog 56 #[.pointer (some ⟨K.r,0,none⟩),.agg (headC h)] w (StepPost w0 K a (memD (K.S.bs.drop a) h s)):=by
 obtain ⟨t,hs⟩:=hr.src;have hlen:=hs.len;have hle:=hs.le;have hLL:(K.S.bs.drop a).length=K.S.n - a:=by rw [List.length_drop,hlen]
 unfold memD
 by_cases hf:4096≤s.out.length
 ·rw [if_pos hf]
  exact (add_full hr h (Nat.le_antisymm hr.many hf)).mono fun e w' h => h
 ·rw [if_neg hf]
  have hf':s.out.length < 4096:=by omega
  by_cases hk:h.kind≠48∧h.kind≠49∧h.kind≠50∧h.kind≠53
  ·rw [if_pos hk]
   exact (add_odd hr h hf' (by
    cases hx:knownD h.kind with
    | false => rfl
    | true => exact absurd hk ((known_is _).1 hx))).mono fun e w' h => h
  ·rw [if_neg hk,memOf_is]
   have hk':=(known_is _).2 hk
   by_cases ha:(applyD (lastD s.glob) s.own (renD h s)).2≠0
   ·rw [if_pos ha]
    exact (add_noapply hr h hf' hk' ha).mono fun e w' h => h
   ·rw [if_neg ha]
    have ha':applyD (lastD s.glob) s.own (renD h s)=((applyD (lastD s.glob) s.own (renD h s)).1,0):=Prod.ext rfl (Classical.byContradiction ha);have hb:=apply_bd h hr h0 h1 h2;obtain ⟨ah,hah⟩:∃ x,(applyD (lastD s.glob) s.own (renD h s)).1=x:=⟨_,rfl⟩;rw [hah] at ha' hb ⊢
    by_cases hfr:(fromD ah).2≠0
    ·rw [if_pos hfr]
     exact (add_nofrom hr h hf' hk' hN h0 h1 h2 ah ha' hfr).mono fun e w' h => h
    ·rw [if_neg hfr]
     have hfr':(fromD ah).2=0:=Classical.byContradiction hfr;have hsz:=fromD_size hfr';obtain ⟨k,hk0⟩:∃ k:Nat,ah.size=(k:Int):=⟨ah.size.toNat,by omega⟩
     have hkl:k≤1048576:=by omega
     have hbk:blocksOf k=padN k:=rfl;simp only;unfold bodyN;rw [hk0,Int.toNat_natCast,hLL]
     by_cases h3:K.S.n < a+512+padN k
     ·rw [if_pos (by rw [hbk];omega)]
      exact (add_short hr h hf' hk' hN h0 h1 h2 ah ha' hfr' k hk0 hkl h3).mono fun e w' h => h
     ·rw [if_neg (by rw [hbk];omega)]
      simp only;obtain ⟨X,hX⟩:∃ X,(K.S.bs.drop (a+512)).take k=X:=⟨_,rfl⟩;rw [List.drop_drop,hX,hbk];refine (add_ok hr h hf' hk' hN h0 h1 h2 ah ha' hfr' k hk0 hkl X hX (by omega)).mono ?_
      rintro e w' ⟨rfl,hb⟩;rw [Nat.add_assoc] at hb;exact ⟨rfl,hb⟩
theorem blk_ok (w:World) (g a t:Nat) (S:Sv) (h:Block.Src w g S a t) (ho:S.off g) (X:List UInt8) (hX:(S.bs.drop a).take 512=X) (hl:a+512≤S.n) :
 Calls Tryz.prog 51 #[.pointer (some ⟨g,0,none⟩)] w fun e w' => ∃ p c t',e=.returned (.tuple #[.slice p 512 c,.int .i64 0])∧512≤c∧c≤maxLen∧BAt w' p 512 X∧Block.Src w' g S (a+512) t'∧Kept (oneB g) w w':=by
 refine (srcBlock_any w g a t S h ho).mono ?_
 rintro e w' (⟨h1,_⟩ | ⟨_,h2⟩)
 ·omega
 ·rcases h2 with ⟨_,v,rfl,h3,⟨t',h4⟩,h5⟩ | ⟨h1,_⟩
  ·obtain ⟨p,c,rfl,h6,h7,h8,_,_⟩:=h3.slice
   rw [hX] at h8;exact ⟨p,c,t',rfl,h6,h7,h8,h4,h5⟩
  ·omega
theorem blk_no (w:World) (g a t:Nat) (S:Sv) (h:Block.Src w g S a t) (ho:S.off g) (hl:S.n < a+512) :
 Calls Tryz.prog 51 #[.pointer (some ⟨g,0,none⟩)] w fun e w' => ∃ E a' t',(E=14 ∨ E=2)∧e=.returned (.tuple #[.slice none 0 0,.int .i64 E])∧Block.Src w' g S a' t'∧Kept (oneB g) w w':=by
 refine (srcBlock_any w g a t S h ho).mono ?_
 rintro e w' (⟨_,rfl,⟨t',h1⟩,h2⟩ | ⟨_,h2⟩)
 ·exact ⟨14,_,t',.inl rfl,rfl,h1,h2⟩
 ·rcases h2 with ⟨h3,_⟩ | ⟨_,rfl,⟨t',h4⟩,h5⟩
  ·omega
  ·exact ⟨2,_,t',.inr rfl,rfl,h4,h5⟩
def NextPost (w0:World) (K:RK) (a:Nat) (s:RS) (mb:Option Nat) (v:Value) (xs:List MP) (q:Option Addr) (n c:Nat) (st:Step) (e:Ending) (w':World):Prop:=
 match st with
 | .fault er => (∃ b,e=.returned (.tuple #[.bool b,.int .i64 er]))∧Below w0.heap.size w0 w'
 | .done => e=.returned (.tuple #[.bool false,.int .i64 0]) ∧ ∃ a',Rd w0 w' K a' s mb v xs q n c
 | .next k s' => e=.returned (.tuple #[.bool true,.int .i64 0])∧Left w0 K (a+k) s' w'
theorem next_short (hr:Rd w0 w K a s mb v xs q n c) (hl:K.S.n < a+512) :
 Calls Tryz.prog 34 #[.pointer (some ⟨K.r,0,none⟩)] w fun e w' => e=.returned (.tuple #[.bool false,.int .i64 2])∧Below w0.heap.size w0 w':=by
 obtain ⟨t,hs⟩:=hr.src;have HR:=Lib.hid hr;have x0:=hr.c0;have hB:=blk_no w K.g a t K.S hs hr.off hl;clear hr hs hl
 go_enter Tryz.func34,Tryz.ntmps34
 go_wp2_with fail
 refine hB.mono ?_
 rintro e w1 ⟨E,a',t',hE,rfl,h4,h5⟩;have F:=Lib.hid (HR.out.moved h5 ⟨t',h4⟩);have hE0:(E != 0)=true:=by rcases hE with rfl | rfl<;>rfl
 clear h4 h5 hB x0 hE
 go_wp2
 go_ret2
 exact ⟨rfl,F.out.bel⟩
theorem next_end (hr:Rd w0 w K a s mb v xs q n c) (X:List UInt8) (hX:(K.S.bs.drop a).take 512=X) (hl:a+512≤K.S.n) (hz:zeroB X=true) :
 Calls Tryz.prog 34 #[.pointer (some ⟨K.r,0,none⟩)] w fun e w' => e=.returned (.tuple #[.bool false,.int .i64 (endE (K.S.bs.drop (a+512)) s)]) ∧ ∃ a',Rd w0 w' K a' s mb v xs q n c:=by
 obtain ⟨t,hs⟩:=hr.src;have hXl:X.length=512:=by rw [← hX,List.length_take,List.length_drop,hs.len];omega
 have HR:=Lib.hid hr;have x0:=hr.c0;have hB:=blk_ok w K.g a t K.S hs hr.off X hX hl;have HXL:=Lib.hid hXl;have HZ:=Lib.hid hz;obtain ⟨EE,hEE⟩:∃ EE,endE (K.S.bs.drop (a+512)) s=EE:=⟨_,rfl⟩;rw [hEE];have HEE:=Lib.hid hEE;clear hr hs hl hX hXl hz hEE
 go_enter Tryz.func34,Tryz.ntmps34
 go_wp2_with fail
 refine hB.mono ?_
 rintro e w1 ⟨p,cc,t',rfl,_,_,h3,h4,h5⟩;have F:=Lib.hid (HR.out.moved h5 ⟨t',h4⟩);have HB1:=Lib.hid h3;clear h3 h4 h5 hB x0
 go_wp2_with fail
 refine (zero512_any p cc X w1 HXL.out HB1.out).mono ?_
 rw [HZ.out];rintro e w2 ⟨rfl,rfl⟩
 go_wp2_with fail
 refine (show Calls _ _ _ _ (EndPost w0 K (a+512) s mb v xs q n c (endE (K.S.bs.drop (a+512)) s)) from end_any F.out).mono ?_
 rw [HEE.out];rintro e w3 ⟨rfl,a',hR⟩;have G:=Lib.hid hR;clear hR
 go_wp2
 go_ret2
 exact ⟨rfl,a',G.out⟩
theorem next_nohead (hr:Rd w0 w K a s mb v xs q n c) (X:List UInt8) (hX:(K.S.bs.drop a).take 512=X) (hl:a+512≤K.S.n) (hz:zeroB X=false) (he:(headR X).2≠0) :
 Calls Tryz.prog 34 #[.pointer (some ⟨K.r,0,none⟩)] w fun e w' => e=.returned (.tuple #[.bool false,.int .i64 (headR X).2])∧Below w0.heap.size w0 w':=by
 obtain ⟨t,hs⟩:=hr.src;have hXl:X.length=512:=by rw [← hX,List.length_take,List.length_drop,hs.len];omega
 have HR:=Lib.hid hr;have x0:=hr.c0;have hB:=blk_ok w K.g a t K.S hs hr.off X hX hl;have HXL:=Lib.hid hXl;have HZ:=Lib.hid hz;obtain ⟨⟨h,er⟩,hh⟩:∃ x,headR X=x:=⟨_,rfl⟩;rw [hh] at he ⊢;simp only at he ⊢;have hE0:(er != 0)=true:=by simpa using he
 have HH:=Lib.hid hh;clear hr hs hl hX hXl hz he hh
 go_enter Tryz.func34,Tryz.ntmps34
 go_wp2_with fail
 refine hB.mono ?_
 rintro e w1 ⟨p,cc,t',rfl,hc1,hc2,h3,h4,h5⟩;have F:=Lib.hid (HR.out.moved h5 ⟨t',h4⟩);have HB1:=Lib.hid h3;have HC1:=Lib.hid (And.intro hc1 hc2);clear h3 h4 h5 hB x0 hc1 hc2
 go_wp2_with fail
 refine (zero512_any p cc X w1 HXL.out HB1.out).mono ?_
 rw [HZ.out];rintro e w2 ⟨rfl,rfl⟩
 go_wp2_with fail
 refine (parseH_any p 512 cc X w1 HXL.out HC1.out.1 HC1.out.2 HB1.out).mono ?_
 rw [HH.out];unfold headA headC;simp only;rintro e w3 ⟨rfl,hk3⟩;have G:=Lib.hid ((F.out.idle hk3).bel.alloc (F.out.idle hk3).bel.size (.cells #[.string (str h.name),.string (str h.link),.int .u8 (h.kind.toNat:Int),.int .i64 h.mode,.int .i64 h.uid,.int .i64 h.gid,.int .i64 h.time,.int .i64 h.size,.bool h.gnu] 41));clear hk3
 go_wp2
 go_ret2
 exact ⟨rfl,G.out⟩
end
end Go.Proofs.YtnpkcneojilmkaaGreatDoor.Mem
end
section
namespace Go.Proofs.YtnpkcneojilmkaaGreatDoor.Mem
open Go.ChangeShapes Go.WideShapes Go.ChangeAt Go.RowKit Base Byt Txt Bk Mk Block Hp Head Attr Rec Path Go.Lib Go.Shelf
set_option linter.unusedVariables false
set_option maxRecDepth 100000
section
variable {w0 w w':World} {K:RK} {a:Nat} {s:RS} {mb:Option Nat} {v:Value} {xs:List MP} {q:Option Addr} {n c:Nat}
set_option maxHeartbeats 2000000 in
theorem next_ext120 (hr:Rd w0 w K a s mb v xs q n c) (X:List UInt8) (hX:(K.S.bs.drop a).take 512=X) (hl:a+512≤K.S.n) (hz:zeroB X=false) (h:HeadV) (hh:headR X=(h,0)) (hkd:h.kind=120) (hN:Need w0) :
 Calls Tryz.prog 34 #[.pointer (some ⟨K.r,0,none⟩)] w fun e w' => ∃ E,e=.returned (.tuple #[.bool true,.int .i64 E])∧StepPost w0 K a (extD (K.S.bs.drop a) h s) (.returned (.int .i64 E)) w':=by
 obtain ⟨t,hs⟩:=hr.src;have hXl:X.length=512:=by rw [← hX,List.length_take,List.length_drop,hs.len];omega
 have HR:=Lib.hid hr;have x0:=hr.c0;have hB:=blk_ok w K.g a t K.S hs hr.off X hX hl;have HXL:=Lib.hid hXl;have HZ:=Lib.hid hz;have HH:=Lib.hid hh;have hbd:=headR_bd X;rw [hh] at hbd;obtain ⟨b0,b1,b2⟩:=hbd;have HBD:=Lib.hid (And.intro b0 (And.intro b1 b2));have HND:=Lib.hid hN;obtain ⟨kn,hkn⟩:∃ kn:Int,(h.kind.toNat:Int)=kn:=⟨_,rfl⟩;obtain rfl:kn=120:=by rw [← hkn,hkd];rfl
 have HK:=Lib.hid hkd;clear hkd;clear hr hs hl hX hXl hz hh b0 b1 b2 hN;have HKN:=Lib.hid hkn;clear hkn
 go_enter Tryz.func34,Tryz.ntmps34
 go_wp2_with fail
 refine hB.mono ?_
 rintro e w1 ⟨p,cc,t',rfl,hc1,hc2,h3,h4,h5⟩;have F:=Lib.hid (HR.out.moved h5 ⟨t',h4⟩);have HB1:=Lib.hid h3;have HC1:=Lib.hid (And.intro hc1 hc2);clear h3 h4 h5 hB x0 hc1 hc2
 go_wp2_with fail
 refine (zero512_any p cc X w1 HXL.out HB1.out).mono ?_
 rw [HZ.out];rintro e w2 ⟨rfl,rfl⟩
 go_wp2_with fail
 refine (parseH_any p 512 cc X w1 HXL.out HC1.out.1 HC1.out.2 HB1.out).mono ?_
 rw [HH.out];unfold headA headC;simp only [HKN.out];rintro e w3 ⟨rfl,hk3⟩;have hG:=(F.out.idle hk3).below ((Below.refl _ w3).alloc (Nat.le_refl _) (.cells #[.string (str h.name),.string (str h.link),.int .u8 120,.int .i64 h.mode,.int .i64 h.uid,.int .i64 h.gid,.int .i64 h.time,.int .i64 h.size,.bool h.gnu] 41));have b1:=Blk.new w3 41 #[.string (str h.name),.string (str h.link),.int .u8 120,.int .i64 h.mode,.int .i64 h.uid,.int .i64 h.gid,.int .i64 h.time,.int .i64 h.size,.bool h.gnu];have d0:=b1.cell 0;have d1:=b1.cell 1;have d2:=b1.cell 2;have d3:=b1.cell 3;have d4:=b1.cell 4
 have d5:=b1.cell 5;have d6:=b1.cell 6;have d7:=b1.cell 7;have d8:=b1.cell 8;simp only [List.getElem?_toArray,List.getElem?_cons_zero,List.getElem?_cons_succ] at d0 d1 d2 d3 d4 d5 d6 d7 d8;have G:=Lib.hid hG;clear hk3 b1 hG
 go_wp2_with fail
 refine (show Calls _ _ #[.pointer (some ⟨K.r,0,none⟩),.agg #[.string (str h.name),.string (str h.link),.int .u8 120,.int .i64 h.mode,.int .i64 h.uid,.int .i64 h.gid,.int .i64 h.time,.int .i64 h.size,.bool h.gnu]] _ (StepPost w0 K a (extD (K.S.bs.drop a) h s)) from by
  have:=ext_any G.out h HBD.out.1 (by rw [HK.out];rfl) HND.out
  unfold headC at this;rw [HKN.out] at this
  exact this).mono ?_
 intro e w4 hp
 obtain ⟨E,rfl⟩:∃ E,e=.returned (.int .i64 E):=by
  revert hp
  cases extD (K.S.bs.drop a) h s with
  | fault er => exact fun hp => ⟨er,hp.1⟩
  | done => exact fun hp => hp.elim
  | next k s' => exact fun hp => ⟨0,hp.1⟩
 have HP:=Lib.hid hp;clear hp
 go_wp2
 go_ret2
 exact ⟨E,rfl,HP.out⟩
set_option maxHeartbeats 2000000 in
theorem next_ext103 (hr:Rd w0 w K a s mb v xs q n c) (X:List UInt8) (hX:(K.S.bs.drop a).take 512=X) (hl:a+512≤K.S.n) (hz:zeroB X=false) (h:HeadV) (hh:headR X=(h,0)) (hkd:h.kind=103) (hN:Need w0) :
 Calls Tryz.prog 34 #[.pointer (some ⟨K.r,0,none⟩)] w fun e w' => ∃ E,e=.returned (.tuple #[.bool true,.int .i64 E])∧StepPost w0 K a (extD (K.S.bs.drop a) h s) (.returned (.int .i64 E)) w':=by
 obtain ⟨t,hs⟩:=hr.src;have hXl:X.length=512:=by rw [← hX,List.length_take,List.length_drop,hs.len];omega
 have HR:=Lib.hid hr;have x0:=hr.c0;have hB:=blk_ok w K.g a t K.S hs hr.off X hX hl;have HXL:=Lib.hid hXl;have HZ:=Lib.hid hz;have HH:=Lib.hid hh;have hbd:=headR_bd X;rw [hh] at hbd;obtain ⟨b0,b1,b2⟩:=hbd;have HBD:=Lib.hid (And.intro b0 (And.intro b1 b2));have HND:=Lib.hid hN;obtain ⟨kn,hkn⟩:∃ kn:Int,(h.kind.toNat:Int)=kn:=⟨_,rfl⟩;obtain rfl:kn=103:=by rw [← hkn,hkd];rfl
 have HK:=Lib.hid hkd;clear hkd;clear hr hs hl hX hXl hz hh b0 b1 b2 hN;have HKN:=Lib.hid hkn;clear hkn
 go_enter Tryz.func34,Tryz.ntmps34
 go_wp2_with fail
 refine hB.mono ?_
 rintro e w1 ⟨p,cc,t',rfl,hc1,hc2,h3,h4,h5⟩;have F:=Lib.hid (HR.out.moved h5 ⟨t',h4⟩);have HB1:=Lib.hid h3;have HC1:=Lib.hid (And.intro hc1 hc2);clear h3 h4 h5 hB x0 hc1 hc2
 go_wp2_with fail
 refine (zero512_any p cc X w1 HXL.out HB1.out).mono ?_
 rw [HZ.out];rintro e w2 ⟨rfl,rfl⟩
 go_wp2_with fail
 refine (parseH_any p 512 cc X w1 HXL.out HC1.out.1 HC1.out.2 HB1.out).mono ?_
 rw [HH.out];unfold headA headC;simp only [HKN.out];rintro e w3 ⟨rfl,hk3⟩;have hG:=(F.out.idle hk3).below ((Below.refl _ w3).alloc (Nat.le_refl _) (.cells #[.string (str h.name),.string (str h.link),.int .u8 103,.int .i64 h.mode,.int .i64 h.uid,.int .i64 h.gid,.int .i64 h.time,.int .i64 h.size,.bool h.gnu] 41));have b1:=Blk.new w3 41 #[.string (str h.name),.string (str h.link),.int .u8 103,.int .i64 h.mode,.int .i64 h.uid,.int .i64 h.gid,.int .i64 h.time,.int .i64 h.size,.bool h.gnu];have d0:=b1.cell 0;have d1:=b1.cell 1;have d2:=b1.cell 2;have d3:=b1.cell 3;have d4:=b1.cell 4
 have d5:=b1.cell 5;have d6:=b1.cell 6;have d7:=b1.cell 7;have d8:=b1.cell 8;simp only [List.getElem?_toArray,List.getElem?_cons_zero,List.getElem?_cons_succ] at d0 d1 d2 d3 d4 d5 d6 d7 d8;have G:=Lib.hid hG;clear hk3 b1 hG
 go_wp2_with fail
 refine (show Calls _ _ #[.pointer (some ⟨K.r,0,none⟩),.agg #[.string (str h.name),.string (str h.link),.int .u8 103,.int .i64 h.mode,.int .i64 h.uid,.int .i64 h.gid,.int .i64 h.time,.int .i64 h.size,.bool h.gnu]] _ (StepPost w0 K a (extD (K.S.bs.drop a) h s)) from by
  have:=ext_any G.out h HBD.out.1 (by rw [HK.out];rfl) HND.out
  unfold headC at this;rw [HKN.out] at this
  exact this).mono ?_
 intro e w4 hp
 obtain ⟨E,rfl⟩:∃ E,e=.returned (.int .i64 E):=by
  revert hp
  cases extD (K.S.bs.drop a) h s with
  | fault er => exact fun hp => ⟨er,hp.1⟩
  | done => exact fun hp => hp.elim
  | next k s' => exact fun hp => ⟨0,hp.1⟩
 have HP:=Lib.hid hp;clear hp
 go_wp2
 go_ret2
 exact ⟨E,rfl,HP.out⟩
set_option maxHeartbeats 2000000 in
theorem next_ext76 (hr:Rd w0 w K a s mb v xs q n c) (X:List UInt8) (hX:(K.S.bs.drop a).take 512=X) (hl:a+512≤K.S.n) (hz:zeroB X=false) (h:HeadV) (hh:headR X=(h,0)) (hkd:h.kind=76) (hN:Need w0) :
 Calls Tryz.prog 34 #[.pointer (some ⟨K.r,0,none⟩)] w fun e w' => ∃ E,e=.returned (.tuple #[.bool true,.int .i64 E])∧StepPost w0 K a (extD (K.S.bs.drop a) h s) (.returned (.int .i64 E)) w':=by
 obtain ⟨t,hs⟩:=hr.src;have hXl:X.length=512:=by rw [← hX,List.length_take,List.length_drop,hs.len];omega
 have HR:=Lib.hid hr;have x0:=hr.c0;have hB:=blk_ok w K.g a t K.S hs hr.off X hX hl;have HXL:=Lib.hid hXl;have HZ:=Lib.hid hz;have HH:=Lib.hid hh;have hbd:=headR_bd X;rw [hh] at hbd;obtain ⟨b0,b1,b2⟩:=hbd;have HBD:=Lib.hid (And.intro b0 (And.intro b1 b2));have HND:=Lib.hid hN;obtain ⟨kn,hkn⟩:∃ kn:Int,(h.kind.toNat:Int)=kn:=⟨_,rfl⟩;obtain rfl:kn=76:=by rw [← hkn,hkd];rfl
 have HK:=Lib.hid hkd;clear hkd;clear hr hs hl hX hXl hz hh b0 b1 b2 hN;have HKN:=Lib.hid hkn;clear hkn
 go_enter Tryz.func34,Tryz.ntmps34
 go_wp2_with fail
 refine hB.mono ?_
 rintro e w1 ⟨p,cc,t',rfl,hc1,hc2,h3,h4,h5⟩;have F:=Lib.hid (HR.out.moved h5 ⟨t',h4⟩);have HB1:=Lib.hid h3;have HC1:=Lib.hid (And.intro hc1 hc2);clear h3 h4 h5 hB x0 hc1 hc2
 go_wp2_with fail
 refine (zero512_any p cc X w1 HXL.out HB1.out).mono ?_
 rw [HZ.out];rintro e w2 ⟨rfl,rfl⟩
 go_wp2_with fail
 refine (parseH_any p 512 cc X w1 HXL.out HC1.out.1 HC1.out.2 HB1.out).mono ?_
 rw [HH.out];unfold headA headC;simp only [HKN.out];rintro e w3 ⟨rfl,hk3⟩;have hG:=(F.out.idle hk3).below ((Below.refl _ w3).alloc (Nat.le_refl _) (.cells #[.string (str h.name),.string (str h.link),.int .u8 76,.int .i64 h.mode,.int .i64 h.uid,.int .i64 h.gid,.int .i64 h.time,.int .i64 h.size,.bool h.gnu] 41));have b1:=Blk.new w3 41 #[.string (str h.name),.string (str h.link),.int .u8 76,.int .i64 h.mode,.int .i64 h.uid,.int .i64 h.gid,.int .i64 h.time,.int .i64 h.size,.bool h.gnu];have d0:=b1.cell 0;have d1:=b1.cell 1;have d2:=b1.cell 2;have d3:=b1.cell 3;have d4:=b1.cell 4
 have d5:=b1.cell 5;have d6:=b1.cell 6;have d7:=b1.cell 7;have d8:=b1.cell 8;simp only [List.getElem?_toArray,List.getElem?_cons_zero,List.getElem?_cons_succ] at d0 d1 d2 d3 d4 d5 d6 d7 d8;have G:=Lib.hid hG;clear hk3 b1 hG
 go_wp2_with fail
 refine (show Calls _ _ #[.pointer (some ⟨K.r,0,none⟩),.agg #[.string (str h.name),.string (str h.link),.int .u8 76,.int .i64 h.mode,.int .i64 h.uid,.int .i64 h.gid,.int .i64 h.time,.int .i64 h.size,.bool h.gnu]] _ (StepPost w0 K a (extD (K.S.bs.drop a) h s)) from by
  have:=ext_any G.out h HBD.out.1 (by rw [HK.out];rfl) HND.out
  unfold headC at this;rw [HKN.out] at this
  exact this).mono ?_
 intro e w4 hp
 obtain ⟨E,rfl⟩:∃ E,e=.returned (.int .i64 E):=by
  revert hp
  cases extD (K.S.bs.drop a) h s with
  | fault er => exact fun hp => ⟨er,hp.1⟩
  | done => exact fun hp => hp.elim
  | next k s' => exact fun hp => ⟨0,hp.1⟩
 have HP:=Lib.hid hp;clear hp
 go_wp2
 go_ret2
 exact ⟨E,rfl,HP.out⟩
set_option maxHeartbeats 2000000 in
theorem next_ext75 (hr:Rd w0 w K a s mb v xs q n c) (X:List UInt8) (hX:(K.S.bs.drop a).take 512=X) (hl:a+512≤K.S.n) (hz:zeroB X=false) (h:HeadV) (hh:headR X=(h,0)) (hkd:h.kind=75) (hN:Need w0) :
 Calls Tryz.prog 34 #[.pointer (some ⟨K.r,0,none⟩)] w fun e w' => ∃ E,e=.returned (.tuple #[.bool true,.int .i64 E])∧StepPost w0 K a (extD (K.S.bs.drop a) h s) (.returned (.int .i64 E)) w':=by
 obtain ⟨t,hs⟩:=hr.src;have hXl:X.length=512:=by rw [← hX,List.length_take,List.length_drop,hs.len];omega
 have HR:=Lib.hid hr;have x0:=hr.c0;have hB:=blk_ok w K.g a t K.S hs hr.off X hX hl;have HXL:=Lib.hid hXl;have HZ:=Lib.hid hz;have HH:=Lib.hid hh;have hbd:=headR_bd X;rw [hh] at hbd;obtain ⟨b0,b1,b2⟩:=hbd;have HBD:=Lib.hid (And.intro b0 (And.intro b1 b2));have HND:=Lib.hid hN;obtain ⟨kn,hkn⟩:∃ kn:Int,(h.kind.toNat:Int)=kn:=⟨_,rfl⟩;obtain rfl:kn=75:=by rw [← hkn,hkd];rfl
 have HK:=Lib.hid hkd;clear hkd;clear hr hs hl hX hXl hz hh b0 b1 b2 hN;have HKN:=Lib.hid hkn;clear hkn
 go_enter Tryz.func34,Tryz.ntmps34
 go_wp2_with fail
 refine hB.mono ?_
 rintro e w1 ⟨p,cc,t',rfl,hc1,hc2,h3,h4,h5⟩;have F:=Lib.hid (HR.out.moved h5 ⟨t',h4⟩);have HB1:=Lib.hid h3;have HC1:=Lib.hid (And.intro hc1 hc2);clear h3 h4 h5 hB x0 hc1 hc2
 go_wp2_with fail
 refine (zero512_any p cc X w1 HXL.out HB1.out).mono ?_
 rw [HZ.out];rintro e w2 ⟨rfl,rfl⟩
 go_wp2_with fail
 refine (parseH_any p 512 cc X w1 HXL.out HC1.out.1 HC1.out.2 HB1.out).mono ?_
 rw [HH.out];unfold headA headC;simp only [HKN.out];rintro e w3 ⟨rfl,hk3⟩;have hG:=(F.out.idle hk3).below ((Below.refl _ w3).alloc (Nat.le_refl _) (.cells #[.string (str h.name),.string (str h.link),.int .u8 75,.int .i64 h.mode,.int .i64 h.uid,.int .i64 h.gid,.int .i64 h.time,.int .i64 h.size,.bool h.gnu] 41));have b1:=Blk.new w3 41 #[.string (str h.name),.string (str h.link),.int .u8 75,.int .i64 h.mode,.int .i64 h.uid,.int .i64 h.gid,.int .i64 h.time,.int .i64 h.size,.bool h.gnu];have d0:=b1.cell 0;have d1:=b1.cell 1;have d2:=b1.cell 2;have d3:=b1.cell 3;have d4:=b1.cell 4
 have d5:=b1.cell 5;have d6:=b1.cell 6;have d7:=b1.cell 7;have d8:=b1.cell 8;simp only [List.getElem?_toArray,List.getElem?_cons_zero,List.getElem?_cons_succ] at d0 d1 d2 d3 d4 d5 d6 d7 d8;have G:=Lib.hid hG;clear hk3 b1 hG
 go_wp2_with fail
 refine (show Calls _ _ #[.pointer (some ⟨K.r,0,none⟩),.agg #[.string (str h.name),.string (str h.link),.int .u8 75,.int .i64 h.mode,.int .i64 h.uid,.int .i64 h.gid,.int .i64 h.time,.int .i64 h.size,.bool h.gnu]] _ (StepPost w0 K a (extD (K.S.bs.drop a) h s)) from by
  have:=ext_any G.out h HBD.out.1 (by rw [HK.out];rfl) HND.out
  unfold headC at this;rw [HKN.out] at this
  exact this).mono ?_
 intro e w4 hp
 obtain ⟨E,rfl⟩:∃ E,e=.returned (.int .i64 E):=by
  revert hp
  cases extD (K.S.bs.drop a) h s with
  | fault er => exact fun hp => ⟨er,hp.1⟩
  | done => exact fun hp => hp.elim
  | next k s' => exact fun hp => ⟨0,hp.1⟩
 have HP:=Lib.hid hp;clear hp
 go_wp2
 go_ret2
 exact ⟨E,rfl,HP.out⟩
set_option maxHeartbeats 2000000 in
theorem next_add (hr:Rd w0 w K a s mb v xs q n c) (X:List UInt8) (hX:(K.S.bs.drop a).take 512=X) (hl:a+512≤K.S.n) (hz:zeroB X=false) (h:HeadV) (hh:headR X=(h,0)) (hkd:isExt h.kind=false) (hN:Need w0) :
 Calls Tryz.prog 34 #[.pointer (some ⟨K.r,0,none⟩)] w fun e w' => ∃ E,e=.returned (.tuple #[.bool true,.int .i64 E])∧StepPost w0 K a (memD (K.S.bs.drop a) h s) (.returned (.int .i64 E)) w':=by
 obtain ⟨t,hs⟩:=hr.src;have hXl:X.length=512:=by rw [← hX,List.length_take,List.length_drop,hs.len];omega
 have HR:=Lib.hid hr;have x0:=hr.c0;have hB:=blk_ok w K.g a t K.S hs hr.off X hX hl;have HXL:=Lib.hid hXl;have HZ:=Lib.hid hz;have HH:=Lib.hid hh;have hbd:=headR_bd X;rw [hh] at hbd;obtain ⟨b0,b1,b2⟩:=hbd;have HBD:=Lib.hid (And.intro b0 (And.intro b1 b2));have HND:=Lib.hid hN;obtain ⟨kn,hkn⟩:∃ kn:Int,(h.kind.toNat:Int)=kn:=⟨_,rfl⟩
 have e4:(kn == 120)=false∧(kn == 103)=false∧(kn == 76)=false∧(kn == 75)=false:=by
  have hu:=fun m hm => u8_lit h.kind m hm
  unfold isExt at hkd;simp only [Bool.or_eq_false_iff,beq_eq_false_iff_ne] at hkd;obtain ⟨⟨⟨k1,k2⟩,k3⟩,k4⟩:=hkd;simp only [beq_eq_false_iff_ne];exact ⟨fun e => k1 ((hu 120 (by decide)).1 (hkn.trans e)),fun e => k2 ((hu 103 (by decide)).1 (hkn.trans e)),fun e => k3 ((hu 76 (by decide)).1 (hkn.trans e)),fun e => k4 ((hu 75 (by decide)).1 (hkn.trans e))⟩
 obtain ⟨e1,e2,e3,e4⟩:=e4;clear hkd;clear hr hs hl hX hXl hz hh b0 b1 b2 hN;have HKN:=Lib.hid hkn;clear hkn
 go_enter Tryz.func34,Tryz.ntmps34
 go_wp2_with fail
 refine hB.mono ?_
 rintro e w1 ⟨p,cc,t',rfl,hc1,hc2,h3,h4,h5⟩;have F:=Lib.hid (HR.out.moved h5 ⟨t',h4⟩);have HB1:=Lib.hid h3;have HC1:=Lib.hid (And.intro hc1 hc2);clear h3 h4 h5 hB x0 hc1 hc2
 go_wp2_with fail
 refine (zero512_any p cc X w1 HXL.out HB1.out).mono ?_
 rw [HZ.out];rintro e w2 ⟨rfl,rfl⟩
 go_wp2_with fail
 refine (parseH_any p 512 cc X w1 HXL.out HC1.out.1 HC1.out.2 HB1.out).mono ?_
 rw [HH.out];unfold headA headC;simp only [HKN.out];rintro e w3 ⟨rfl,hk3⟩;have hG:=(F.out.idle hk3).below ((Below.refl _ w3).alloc (Nat.le_refl _) (.cells #[.string (str h.name),.string (str h.link),.int .u8 kn,.int .i64 h.mode,.int .i64 h.uid,.int .i64 h.gid,.int .i64 h.time,.int .i64 h.size,.bool h.gnu] 41));have b1:=Blk.new w3 41 #[.string (str h.name),.string (str h.link),.int .u8 kn,.int .i64 h.mode,.int .i64 h.uid,.int .i64 h.gid,.int .i64 h.time,.int .i64 h.size,.bool h.gnu];have d0:=b1.cell 0;have d1:=b1.cell 1;have d2:=b1.cell 2;have d3:=b1.cell 3;have d4:=b1.cell 4
 have d5:=b1.cell 5;have d6:=b1.cell 6;have d7:=b1.cell 7;have d8:=b1.cell 8;simp only [List.getElem?_toArray,List.getElem?_cons_zero,List.getElem?_cons_succ] at d0 d1 d2 d3 d4 d5 d6 d7 d8;have G:=Lib.hid hG;clear hk3 b1 hG
 go_wp2_with fail
 refine (show Calls _ _ #[.pointer (some ⟨K.r,0,none⟩),.agg #[.string (str h.name),.string (str h.link),.int .u8 kn,.int .i64 h.mode,.int .i64 h.uid,.int .i64 h.gid,.int .i64 h.time,.int .i64 h.size,.bool h.gnu]] _ (StepPost w0 K a (memD (K.S.bs.drop a) h s)) from by
  have:=add_any G.out h HND.out HBD.out.1 (by have:=HBD.out.2.1;omega) (by have:=HBD.out.2.2;omega)
  unfold headC at this;rw [HKN.out] at this
  exact this).mono ?_
 intro e w4 hp
 obtain ⟨E,rfl⟩:∃ E,e=.returned (.int .i64 E):=by
  revert hp
  cases memD (K.S.bs.drop a) h s with
  | fault er => exact fun hp => ⟨er,hp.1⟩
  | done => exact fun hp => hp.elim
  | next k s' => exact fun hp => ⟨0,hp.1⟩
 have HP:=Lib.hid hp;clear hp
 go_wp2
 go_ret2
 exact ⟨E,rfl,HP.out⟩
theorem next_of {st:Step} (hd:st ≠ .done) (h:Calls Tryz.prog 34 #[.pointer (some ⟨K.r,0,none⟩)] w fun e w' => ∃ E,e=.returned (.tuple #[.bool true,.int .i64 E])∧StepPost w0 K a st (.returned (.int .i64 E)) w') :
 Calls Tryz.prog 34 #[.pointer (some ⟨K.r,0,none⟩)] w (NextPost w0 K a s mb v xs q n c st):=by
 refine h.mono ?_
 rintro e w' ⟨E,rfl,hp⟩
 cases st with
 | fault er =>
   obtain ⟨h1,h2⟩:=hp;simp only [Ending.returned.injEq,Value.int.injEq,true_and] at h1;subst h1;exact ⟨⟨true,rfl⟩,h2⟩
 | done => exact absurd rfl hd
 | next k s' =>
   obtain ⟨h1,h2⟩:=hp;simp only [Ending.returned.injEq,Value.int.injEq,true_and] at h1;subst h1;exact ⟨rfl,h2⟩
theorem extD_done (l:List UInt8) (h:HeadV) (s:RS):extD l h s ≠ .done:=by
 unfold extD
 split
 ·exact fun h => by cases h
 ·split
  ·exact fun h => by cases h
  ·split
   ·exact fun h => by cases h
   ·split
    ·exact fun h => by cases h
    ·split
     ·exact fun h => by cases h
     ·split
      ·exact fun h => by cases h
      ·split<;>exact fun h => by cases h
theorem memD_done (l:List UInt8) (h:HeadV) (s:RS):memD l h s ≠ .done:=by
 unfold memD
 split
 ·exact fun h => by cases h
 ·split
  ·exact fun h => by cases h
  ·split
   ·exact fun h => by cases h
   ·split<;>exact fun h => by cases h
theorem next_any (hr:Rd w0 w K a s mb v xs q n c) (hN:Need w0) :
 Calls Tryz.prog 34 #[.pointer (some ⟨K.r,0,none⟩)] w (NextPost w0 K a s mb v xs q n c (stepD (K.S.bs.drop a) s)):=by
 obtain ⟨t,hs⟩:=hr.src;have hlen:=hs.len;have hle:=hs.le;have hLL:(K.S.bs.drop a).length=K.S.n - a:=by rw [List.length_drop,hlen]
 unfold stepD
 by_cases h1:(K.S.bs.drop a).length < 512
 ·rw [if_pos h1]
  exact (next_short hr (by omega)).mono fun e w' h => ⟨⟨false,h.1⟩,h.2⟩
 ·rw [if_neg h1]
  have hl:a+512≤K.S.n:=by omega
  obtain ⟨X,hX⟩:∃ X,(K.S.bs.drop a).take 512=X:=⟨_,rfl⟩;rw [hX]
  by_cases h2:zeroB X=true
  ·rw [if_pos h2]
   refine (next_end hr X hX hl h2).mono ?_
   rintro e w' ⟨rfl,a',hR⟩;unfold endE;rw [List.drop_drop,hLL,Nat.sub_sub,show (K.S.bs.drop (a+512)).length=K.S.n - (a+512) by rw [List.length_drop,hlen]]
   by_cases h3:K.S.n - (a+512) < 512
   ·rw [if_pos h3,if_pos h3]
    exact ⟨⟨false,rfl⟩,hR.bel⟩
   ·rw [if_neg h3,if_neg h3]
    by_cases h4:zeroB (K.S.bs.drop (a+512))=false
    ·rw [if_pos h4,if_pos h4]
     exact ⟨⟨false,rfl⟩,hR.bel⟩
    ·rw [if_neg h4,if_neg h4]
     by_cases h5:s.hasX=true ∨ s.name.isSome=true ∨ s.link.isSome=true
     ·rw [if_pos h5,if_pos h5]
      exact ⟨⟨false,rfl⟩,hR.bel⟩
     ·rw [if_neg h5,if_neg h5]
      exact ⟨rfl,a',hR⟩
  ·rw [if_neg h2]
   have h2':zeroB X=false:=by simpa using h2
   by_cases h3:(headR X).2≠0
   ·rw [if_pos h3]
    exact (next_nohead hr X hX hl h2' h3).mono fun e w' h => ⟨⟨false,h.1⟩,h.2⟩
   ·rw [if_neg h3]
    have h4:headR X=((headR X).1,0):=Prod.ext rfl (Classical.byContradiction h3)
    by_cases h5:isExt (headR X).1.kind=true
    ·rw [if_pos h5]
     refine next_of (extD_done _ _ _) ?_
     have h6:=h5;unfold isExt at h6;simp only [Bool.or_eq_true,beq_iff_eq] at h6;rcases h6 with ((h6 | h6) | h6) | h6
     ·exact next_ext120 hr X hX hl h2' _ h4 h6 hN
     ·exact next_ext103 hr X hX hl h2' _ h4 h6 hN
     ·exact next_ext76 hr X hX hl h2' _ h4 h6 hN
     ·exact next_ext75 hr X hX hl h2' _ h4 h6 hN
    ·rw [if_neg h5]
     exact next_of (memD_done _ _ _) (next_add hr X hX hl h2' _ h4 (by simpa using h5) hN)
end
end Go.Proofs.YtnpkcneojilmkaaGreatDoor.Mem
end
section
namespace Go.Proofs.YtnpkcneojilmkaaGreatDoor.Mem
open Go.ChangeShapes Go.WideShapes Go.ChangeAt Go.RowKit Base Byt Txt Bk Mk Block Hp Head Attr Rec Go.Lib
set_option linter.unusedVariables false
set_option maxRecDepth 100000
theorem wait_start (q:Option Addr) (n c:Nat):waitF startS q n c=fun _ => none:=by
 funext k
 unfold waitF startS;simp
def NewRd (w:World) (bs:List UInt8) (e:Ending) (w':World):Prop:=
 ∃ K:RK,e=.returned (.pointer (some ⟨K.r,0,none⟩))∧K.S.bs=bs∧Rd w w' K 0 startS none (.slice none 0 0) [] none 0 0
theorem newRd_end {w w1:World} {g:Nat} {S:Sv} (hg:w.heap.size≤g) (ho:S.off g) (hs:Block.Src w1 g S 0 0) (hk:Kept noneB w w1) :
 Rd w (((w1.alloc (.cells #[.map none] 95)).alloc (.map #[] 0)).alloc (.cells #[.pointer (some ⟨g,0,none⟩),.pointer (some ⟨w1.heap.size,0,none⟩),.map (some (w1.heap.size+1)),.slice none 0 0] 74))
  ⟨w1.heap.size+1+1,g,w1.heap.size,w1.heap.size+1,S⟩ 0 startS none (.slice none 0 0) [] none 0 0:=by
 have hgl:=hs.lt
 have hka:Kept noneB w1 (((w1.alloc (.cells #[.map none] 95)).alloc (.map #[] 0)).alloc (.cells #[.pointer (some ⟨g,0,none⟩),.pointer (some ⟨w1.heap.size,0,none⟩),.map (some (w1.heap.size+1)),.slice none 0 0] 74)):=
  (((Kept.refl noneB w1).alloc _).alloc _).alloc _
 have hsz:=hk.size
 have ot:∀ y,y < w1.heap.size → ¬ Ot ⟨w1.heap.size+1+1,g,w1.heap.size,w1.heap.size+1,S⟩ none (.slice none 0 0) y:=fun y hy e => by
  rcases e with e | e | e | e | e
  ·have e:y=w1.heap.size+1+1:=e;omega
  ·have e:y=w1.heap.size:=e;omega
  ·have e:y=w1.heap.size+1:=e;omega
  ·cases e
  ·cases e
 have hst:=(St.new w1).kept (((Kept.refl noneB (w1.alloc (.cells #[.map none] 95))).alloc (.map #[] 0)).alloc (.cells #[.pointer (some ⟨g,0,none⟩),.pointer (some ⟨w1.heap.size,0,none⟩),.map (some (w1.heap.size+1)),.slice none 0 0] 74)) (fun _ _ => id)
 have hmk:=(mapK_made u8K (w1.alloc (.cells #[.map none] 95))).kept ((Kept.refl noneB _).alloc (.cells #[.pointer (some ⟨g,0,none⟩),.pointer (some ⟨w1.heap.size,0,none⟩),.map (some (w1.heap.size+1)),.slice none 0 0] 74)) id;have hbl:=Blk.new ((w1.alloc (.cells #[.map none] 95)).alloc (.map #[] 0)) 74 #[.pointer (some ⟨g,0,none⟩),.pointer (some ⟨w1.heap.size,0,none⟩),.map (some (w1.heap.size+1)),.slice none 0 0];simp only [World.size_alloc] at hmk hbl
 exact {
  bel:=(hk.trans hka).below (Nat.le_refl _) (fun _ h => h.elim)
  blk:=hbl
  src:=⟨0,hs.kept0 hka⟩
  off:=ho
  st:=hst
  map:=by rw [wait_start];exact hmk
  own:=⟨rfl,fun h => by omega⟩
  own0:=fun _ => rfl
  row:=⟨rfl,.inl ⟨rfl,rfl⟩⟩
  out:=rfl
  bodies:=fun x hx => by simp at hx
  apart:=fun x hx => by simp at hx
  sp:=fun h0 y hy => ot _ (bat_lt hs.bat h0 hy)
  sq:=fun h0 y hy => ot _ (iat_lt hs.iat h0 hy)
  ne:=⟨by show w1.heap.size+1+1≠g;omega,by show w1.heap.size+1+1≠w1.heap.size;omega,by show w1.heap.size+1+1≠w1.heap.size+1;omega,by show g≠w1.heap.size;omega,by show g≠w1.heap.size+1;omega,by show w1.heap.size≠w1.heap.size+1;omega⟩
  neB:=fun b hb => by cases hb
  neV:=fun b hb => by cases hb
  base:=⟨by show w.heap.size≤w1.heap.size+1+1;omega,hg,hsz,by show w.heap.size≤w1.heap.size+1;omega⟩
  many:=by show 0≤4096;omega
  gl:=(fun r hr => by cases hr)
  ol:=⟨(fun r hr => by cases hr),by show 0≤1048576;omega⟩
  nl:=fun t ht => by cases ht
  ll:=fun t ht => by cases ht }
theorem newReader_any (w:World) (p:Option Addr) (n c:Nat) (bs:List UInt8) (q:Option Addr) (m d:Nat) (zs:List Int) (hb:BAt w p n bs) (hl:bs.length=n) (hn:n≤140737488351232) (hq:IAt w q m zs) (hz:zs.length=m) (hm:m * 8≤140737488351232) :
 Calls Tryz.prog 32 #[.slice p n c,.slice q m d] w (NewRd w bs):=by
 have hN:=new_any w p n c bs q m d zs hb hl hn hq hz hm;have hmm:=@run_makeMap Tryz.prog;clear hb hl hn hq hz hm
 go_enter Tryz.func32,Tryz.ntmps32
 go_wp2_with fail
 refine hN.mono ?_
 rintro e w1 ⟨g,S,rfl,h1,h2,h3,h4,h5,h6,h7,h8,h9⟩;have F:=Lib.hid (And.intro h2 (newRd_end h1 h5 h8 h9));clear h1 h2 h3 h4 h5 h6 h7 h8 h9 hN
 go_wp2
 go_ret
 exact ⟨⟨w1.heap.size+1+1,g,w1.heap.size,w1.heap.size+1,S⟩,rfl,F.out.1,F.out.2⟩
end Go.Proofs.YtnpkcneojilmkaaGreatDoor.Mem
end
section
namespace Go.Proofs.YtnpkcneojilmkaaGreatDoor.Mem
open Go.ChangeShapes Go.WideShapes Go.ChangeAt Go.RowKit Base Byt Txt Bk Mk Block Hp Head Attr Rec Path Go.Lib Go.Shelf
set_option linter.unusedVariables false
set_option maxRecDepth 100000
theorem ret_fault {fn:Func} (hf:fn.results=#[.tmp 4,.cell 5 44]) (tmps:Array Value) (w:World) (g:Nat) (v:Value) (ht:tmps.getD 5 undef=.pointer (some ⟨g,0,none⟩)) (hv:tmps.getD 4 undef=v)
 (a b:Int) (hb:Blk w g 44 #[.int .i64 a,.int .i64 b]):(results fn tmps).run Tryz.prog w=.ok (.tuple #[v,.agg #[.int .i64 a,.int .i64 b]]) w:=by
 have c0:=hb.cell 0;have c1:=hb.cell 1;simp only [List.getElem?_toArray,List.getElem?_cons_zero,List.getElem?_cons_succ] at c0 c1;have hl:(loadVar 44 ⟨g,0,none⟩).run Tryz.prog w=.ok (.agg #[.int .i64 a,.int .i64 b]) w:=by go_simp
 have ht':tmps[5]?.getD undef=.pointer (some ⟨g,0,none⟩):=by simpa using ht
 have hv':tmps[4]?.getD undef=v:=by simpa using hv
 simp only [results,hf];simp [Result.andThen,ht',hv',asAddr,hl]
theorem bat_off_blk {w:World} {p:Option Addr} {n:Nat} {bs:List UInt8} {b:Nat} {t:TypeId} {cs:Array Value} (h:BAt w p n bs) (hb:Blk w b t cs) (hs:∀ (i:Nat) (x:Int),cs[i]? ≠ some (.int .u8 x)) (h0:0 < n) {y:Addr} (hy:p=some y):y.block≠b:=by
 obtain ⟨b',o,rfl,_,hc⟩:=h.cell h0
 cases hy
 rintro rfl;have c0:=hc 0 h0;rw [hb.cell] at c0;exact hs _ _ c0
def ReadD (w:World) (bs:List UInt8) (e:Ending) (w':World):Prop:=
 ∃ (p:Option Addr) (c:Nat) (xs:List MP),e=.returned (.tuple #[.slice p xs.length c,.agg #[.int .i64 (membersD bs).2.1,.int .i64 ((membersD bs).2.2:Nat)]])∧xs.length≤c∧c≤maxLen∧xs.map MP.m=(membersD bs).1∧MemsAt w' p xs.length xs∧Below w.heap.size w w'
set_option maxHeartbeats 4000000 in
theorem memRead_any (w:World) (p:Option Addr) (n c:Nat) (bs:List UInt8) (q:Option Addr) (m d:Nat) (zs:List Int) (hb:BAt w p n bs) (hl:bs.length=n) (hn:n≤140737488351232) (hq:IAt w q m zs) (hz:zs.length=m) (hm:m * 8≤140737488351232) (hN:Need w) :
 Calls Tryz.prog 15 #[.slice p n c,.slice q m d] w (ReadD w bs):=by
 obtain ⟨W1,hW1⟩:∃ W1,w.alloc (.cells #[.int .i64 0,.int .i64 0] 44)=W1:=⟨_,rfl⟩;have hB1:Below w.heap.size w W1:=by rw [← hW1];exact (Below.refl _ w).alloc (Nat.le_refl _) _
 have hX1:Blk W1 w.heap.size 44 #[.int .i64 0,.int .i64 0]:=by rw [← hW1];exact Blk.new w _ _
 have hNR:=newReader_any W1 p n c bs q m d zs (hb.below hB1) hl hn (hq.kept (Kept.of_below hB1 noneB) (fun _ _ _ => id)) hz hm
 have HB1:=Lib.hid hB1;have HX1:=Lib.hid hX1;have HND:=Lib.hid (hN.below hB1);have HLN:=Lib.hid hl;clear hb hl hn hq hz hm hN hB1 hX1
 go_enter Tryz.func15,Tryz.ntmps15
 go_upto_region 1 with fail
 clear hW1
 go_wp2_with fail
 refine hNR.mono ?_
 rintro e w2 ⟨K,rfl,hbs,hR⟩;have HBS:=Lib.hid hbs;have HR:=Lib.hid hR;clear hbs hR hNR
 go_wp2_with fail
 go_loopg [7,8,9] bs.length (fun g s7 s8 s9 wr => Hid (∃ (a:Nat) (s:RS) (mb:Option Nat) (v:Value) (xs:List MP) (q:Option Addr) (n c:Nat),Rd W1 wr K a s mb v xs q n c∧readFrom bs 0 startS=readFrom (bs.drop a) a s∧g=bs.length - a))
 case atStart => exact Lib.hid ⟨0,startS,none,.slice none 0 0,[],none,0,0,HR.out,by rw [List.drop_zero],rfl⟩
 case round =>
  obtain ⟨a,s,mb,v,xs,q,n,c,hR,hrf,rfl⟩:=hrel.out;obtain ⟨t,hs⟩:=hR.src;have hP:=place_any wr K.g a t K.S hs;have hNx:=next_any hR HND.out;rw [HBS.out] at hNx;have x0:=hR.c0;have HRD:=Lib.hid hR;have HRF:=Lib.hid hrf;obtain ⟨st,hst⟩:∃ st,stepD (bs.drop a) s=st:=⟨_,rfl⟩;rw [hst] at hNx;have HST:=Lib.hid hst;have hXr:=HX1.out.below hR.bel HX1.out.lt;clear hR hrf hs hst hrel
  go_wp2_with fail
  refine hP.mono ?_
  rintro e w3 ⟨rfl,rfl⟩
  go_wp2_with fail
  refine hNx.mono ?_
  clear hNx hP hXr;intro e w4 hp
  cases st with
  | fault er =>
    obtain ⟨⟨b,rfl⟩,hb4⟩:=hp;have hne:=step_fault HST.out;have hE0:(er != 0)=true:=by simpa using hne
    have b4:=HX1.out.below hb4 HX1.out.lt;have r0:=b4.cell 0;have r1:=b4.cell 1;have f0:=b4.frozen 0;have f1:=b4.frozen 1;simp only [List.getElem?_toArray,List.getElem?_cons_zero,List.getElem?_cons_succ] at r0 r1;have HX4:=Lib.hid b4;have HB4:=Lib.hid hb4
    have E:Hid (membersD bs=([],er,a)):=Lib.hid (by
     show readFrom bs 0 startS=_
     rw [HRF.out,readFrom_fault HST.out])
    clear hb4 hne b4 x0
    go_wp2
    refine bodyPost_ret (ret_fault rfl _ _ w.heap.size _ rfl rfl er (a:Int) ((HX4.out.set 0 (.int .i64 er) (by decide:0 < 2)).set 1 (.int .i64 (a:Int)) (by decide:1 < 2))) rfl ?_
    refine ⟨none,0,[],?_,by simp,by decide,?_,mems_nil _ _,?_⟩
    ·rw [E.out];rfl
    ·rw [E.out];rfl
    ·exact ((HB1.out.trans (HB4.out.mono HB1.out.size)).setCell (p:=⟨w.heap.size,0,none⟩) (Nat.le_refl _) _).setCell (p:=⟨w.heap.size,1,none⟩) (Nat.le_refl _) _
  | done =>
    obtain ⟨rfl,a',hR4⟩:=hp;have b4:=HX1.out.below hR4.bel HX1.out.lt;have r0:=b4.cell 0;have r1:=b4.cell 1;have f0:=b4.frozen 0;have f1:=b4.frozen 1;simp only [List.getElem?_toArray,List.getElem?_cons_zero,List.getElem?_cons_succ] at r0 r1;have HX4:=Lib.hid b4;have x3:=hR4.c3;have HR4:=Lib.hid hR4
    have E:Hid (membersD bs=(s.out,0,0)):=Lib.hid (by
     show readFrom bs 0 startS=_
     rw [HRF.out,readFrom_done HST.out])
    clear hR4 b4 x0
    go_wp2
    have hb5:Below w.heap.size w ((w4.setCell ⟨w.heap.size,0,none⟩ (.int .i64 0)).setCell ⟨w.heap.size,1,none⟩ (.int .i64 0)):=
     ((HB1.out.trans (HR4.out.bel.mono HB1.out.size)).setCell (p:=⟨w.heap.size,0,none⟩) (Nat.le_refl _) _).setCell (p:=⟨w.heap.size,1,none⟩) (Nat.le_refl _) _
    refine bodyPost_ret (ret_fault rfl _ _ w.heap.size _ rfl rfl 0 0 ((HX4.out.set 0 (.int .i64 0) (by decide:0 < 2)).set 1 (.int .i64 0) (by decide:1 < 2))) rfl ?_
    have hk5:Kept (oneB w.heap.size) w4 ((w4.setCell ⟨w.heap.size,0,none⟩ (.int .i64 0)).setCell ⟨w.heap.size,1,none⟩ (.int .i64 0)):=
     ((Kept.refl (oneB w.heap.size) w4).setCell (a:=⟨w.heap.size,0,none⟩) (.inr rfl) _).setCell (a:=⟨w.heap.size,1,none⟩) (.inr rfl) _
    have hx1:=HX1.out.lt
    obtain ⟨p5,c5,rfl,h51,h52,h53⟩:=mems_own (ownsRow_kept HR4.out.row hk5 (fun k hk e => by
     have h1:=(HR4.out.row.lt k hk).1;have h2:k=w.heap.size:=e
     omega)) (fun x hx => (HR4.out.bodies x hx).kept hk5 (fun h0 y hy e => bat_off_blk (HR4.out.bodies x hx).bat HX4.out (fun i z hz => by rcases i with _ | _ | i<;>simp at hz) h0 hy e))
    refine ⟨p5,c5,xs,?_,h51,h52,?_,h53,hb5⟩
    ·rw [E.out];rfl
    ·rw [E.out];exact HR4.out.out
  | next k s' =>
    obtain ⟨rfl,mb',v',xs',q',n',c',hR4⟩:=hp;have HR4:=Lib.hid hR4;have hstep:=step_next HST.out
    have E:Hid (readFrom bs 0 startS=readFrom (bs.drop (a+k)) (a+k) s'):=Lib.hid (by
     rw [HRF.out,readFrom_next HST.out,List.drop_drop])
    have HSTEP:=Lib.hid hstep;clear hR4 hstep x0
    go_wp2
    go_roundg (bs.length - (a+k))
    case measure => have:=HSTEP.out;rw [List.length_drop] at this;omega
    case rel => exact Lib.hid ⟨a+k,s',mb',v',xs',q',n',c',HR4.out,E.out,rfl⟩
end Go.Proofs.YtnpkcneojilmkaaGreatDoor.Mem
end
section
namespace Go.Proofs.YtnpkcneojilmkaaGreatDoor.Wr
open Go.ChangeShapes Go.WideShapes Go.ChangeAt Go.RowKit Base Byt Txt Bk Hp Head Rec Attr Mem Block Go.Lib
set_option linter.unusedVariables false
set_option maxRecDepth 100000
def Box8 (w:World) (b:Nat) (y:MP):Prop:=
 w.cell? ⟨b,0,none⟩=some (.string (str y.m.path))∧w.cell? ⟨b,1,none⟩=some (.string (str y.m.target))∧w.cell? ⟨b,2,none⟩=some (.int .u8 (y.m.kind.toNat:Int))∧w.cell? ⟨b,3,none⟩=some (.int .i64 y.m.mode) ∧
  w.cell? ⟨b,4,none⟩=some (.int .i64 y.m.uid)∧w.cell? ⟨b,5,none⟩=some (.int .i64 y.m.gid)∧w.cell? ⟨b,6,none⟩=some (.int .i64 y.m.time)∧w.cell? ⟨b,7,none⟩=some (.slice y.p y.m.body.length y.c)
theorem box8_of {w:World} {b:Nat} {y:MP} (h:Blk w b 26 y.cs):Box8 w b y:=⟨h.cell 0,h.cell 1,h.cell 2,h.cell 3,h.cell 4,h.cell 5,h.cell 6,h.cell 7⟩
end Go.Proofs.YtnpkcneojilmkaaGreatDoor.Wr
end
