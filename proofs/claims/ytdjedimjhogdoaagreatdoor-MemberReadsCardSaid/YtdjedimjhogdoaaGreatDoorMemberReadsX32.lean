/- Texts of this seat, merged: what the proof reaches. -/
import Derived.Test.YtdjedimjhogdoaaGreatDoorMemberReadsX31
import Derived.BigRegion
import Derived.BigQuiet
import Derived.Deep.QuietTactic
import Derived.Deep.RegionHeldLaw
import Derived.Test.YtdjedimjhogdoaaGreatDoorMemberReadsX23
import Derived.Test.YtdjedimjhogdoaaGreatDoorMemberReadsX30
import Derived.Deep.LoopGhost
import Derived.Test.YtdjedimjhogdoaaGreatDoorMemberReadsX25
import Derived.Test.YtdjedimjhogdoaaGreatDoorMemberReadsX11
import Derived.Deep.DeepCutAuto
import Derived.Test.YtdjedimjhogdoaaGreatDoorMemberReadsX22
import Derived.Test.YtdjedimjhogdoaaGreatDoorMemberReadsX13
import Derived.Test.YtdjedimjhogdoaaGreatDoorMemberReadsX15
section
namespace Go.Proofs.YtdjedimjhogdoaaGreatDoor.Mem
open Go.ChangeShapes Go.WideShapes Go.ChangeAt Go.RowKit Base Byt Txt Bk Mk Block Hp Head Attr Rec Path Go.Lib Go.Shelf
set_option linter.unusedVariables false
set_option maxRecDepth 100000
section
variable {w0 w w':World} {K:RK} {a:Nat} {s:RS} {mb:Option Nat} {v:Value} {xs:List MP} {q:Option Addr} {n c:Nat}
set_option maxHeartbeats 2000000 in
theorem add_full (hr:Rd w0 w K a s mb v xs q n c) (h:HeadV) (hf:s.out.length=4096) :
 Calls Tryz.prog 54 #[.pointer (some ⟨K.r,0,none⟩),.agg (headC h)] w fun e w' => e=.returned (.int .i64 10)∧Below w0.heap.size w0 w':=by
 obtain ⟨vp,vc,hv,_,_,_⟩:=mems_own hr.row hr.bodies;subst hv;have hxl:xs.length=s.out.length:=by have:=congrArg List.length hr.out;simpa using this
 obtain ⟨W1,hW1⟩:∃ W1,w.alloc (.cells (headC h) 57)=W1:=⟨_,rfl⟩;have hB1:Below w.heap.size w W1:=by rw [← hW1];exact (Below.refl _ w).alloc (Nat.le_refl _) _
 have hX1:Blk W1 w.heap.size 57 (headC h):=by rw [← hW1];exact Blk.new w _ _
 have hR1:=hr.below hB1;have x3:=hR1.c3;have HR:=Lib.hid hr;have HB1:=Lib.hid hB1;have HX1:=Lib.hid hX1;have HR1:=Lib.hid hR1;have HXN:=Lib.hid hxl;clear hr hB1 hX1 hR1;rw [hf] at hxl;rw [hxl] at x3;clear hxl
 go_enter Tryz.func54,Tryz.ntmps54
 go_upto_region 1 with fail
 clear hW1
 go_wp2
 go_ret
 exact ⟨rfl,HR1.out.bel⟩
set_option maxHeartbeats 2000000 in
theorem add_odd (hr:Rd w0 w K a s mb v xs q n c) (h:HeadV) (hf:s.out.length < 4096) (hk:knownD h.kind=false) :
 Calls Tryz.prog 54 #[.pointer (some ⟨K.r,0,none⟩),.agg (headC h)] w fun e w' => e=.returned (.int .i64 8)∧Below w0.heap.size w0 w':=by
 obtain ⟨vp,vc,hv,_,_,_⟩:=mems_own hr.row hr.bodies;subst hv;have hxl:xs.length=s.out.length:=by have:=congrArg List.length hr.out;simpa using this
 obtain ⟨W1,hW1⟩:∃ W1,w.alloc (.cells (headC h) 57)=W1:=⟨_,rfl⟩;have hB1:Below w.heap.size w W1:=by rw [← hW1];exact (Below.refl _ w).alloc (Nat.le_refl _) _
 have hX1:Blk W1 w.heap.size 57 (headC h):=by rw [← hW1];exact Blk.new w _ _
 have hR1:=hr.below hB1;have x3:=hR1.c3;have HR:=Lib.hid hr;have HB1:=Lib.hid hB1;have HX1:=Lib.hid hX1;have HR1:=Lib.hid hR1;have HXN:=Lib.hid hxl;clear hr hB1 hX1 hR1;have hnl:((xs.length:Int) == 4096)=false:=by rw [hxl];simpa using (by omega:¬ (s.out.length:Int)=4096)
 clear hxl;have k2:=HX1.out.cell 2;simp only [headC,List.getElem?_toArray,List.getElem?_cons_zero,List.getElem?_cons_succ] at k2;have hkn:=known_any h.kind W1;rw [hk] at hkn
 go_enter Tryz.func54,Tryz.ntmps54
 go_upto_region 1 with fail
 clear hW1
 go_wp2_with fail
 refine hkn.mono ?_
 rintro e w1 ⟨rfl,rfl⟩
 go_wp2
 go_ret
 exact ⟨rfl,HR1.out.bel⟩
set_option maxHeartbeats 4000000 in
theorem add_noapply (hr:Rd w0 w K a s mb v xs q n c) (h:HeadV) (hf:s.out.length < 4096) (hk:knownD h.kind=true) (hae:(applyD (lastD s.glob) s.own (renD h s)).2≠0) :
 Calls Tryz.prog 54 #[.pointer (some ⟨K.r,0,none⟩),.agg (headC h)] w fun e w' => e=.returned (.int .i64 (applyD (lastD s.glob) s.own (renD h s)).2)∧Below w0.heap.size w0 w':=by
 obtain ⟨vp,vc,hv,_,_,_⟩:=mems_own hr.row hr.bodies;subst hv;have hxl:xs.length=s.out.length:=by have:=congrArg List.length hr.out;simpa using this
 obtain ⟨W1,hW1⟩:∃ W1,w.alloc (.cells (headC h) 57)=W1:=⟨_,rfl⟩;have hB1:Below w.heap.size w W1:=by rw [← hW1];exact (Below.refl _ w).alloc (Nat.le_refl _) _
 have hX1:Blk W1 w.heap.size 57 (headC h):=by rw [← hW1];exact Blk.new w _ _
 have hR1:=hr.below hB1;have x3:=hR1.c3;have HR:=Lib.hid hr;have HB1:=Lib.hid hB1;have HX1:=Lib.hid hX1;have HR1:=Lib.hid hR1;have HXN:=Lib.hid hxl;clear hr hB1 hX1 hR1;have hnl:((xs.length:Int) == 4096)=false:=by rw [hxl];simpa using (by omega:¬ (s.out.length:Int)=4096)
 clear hxl;have k2:=HX1.out.cell 2;simp only [headC,List.getElem?_toArray,List.getElem?_cons_zero,List.getElem?_cons_succ] at k2;have hkn:=known_any h.kind W1;rw [hk] at hkn;obtain ⟨⟨oq,on,oc⟩,hov⟩:∃ x,ownV s q n c=x:=⟨_,rfl⟩;obtain ⟨⟨ah,ae⟩,hap⟩:∃ x,applyD (lastD s.glob) s.own (renD h s)=x:=⟨_,rfl⟩
 have HSS:Hid (∀ wi,Rd w0 wi K a s mb (.slice vp xs.length vc) xs q n c → ((wi.cell? ⟨K.r,1,none⟩=some (.pointer (some ⟨K.gs,0,none⟩))∧wi.cell? ⟨K.r,2,none⟩=some (.map (some K.mw)))∧(Instr.lookup 68 (.map (some K.mw)) (.int .u8 120) false).run Tryz.prog wi=.ok (.agg #[.string ⟨#[]⟩,.slice oq on oc]) wi)):=
  Lib.hid (fun wi hi => ⟨⟨hi.c1,hi.c2⟩,look120 hi.map hov⟩)
 have HAP:Hid (∀ wi,Rd w0 wi K a s mb (.slice vp xs.length vc) xs q n c → Calls Tryz.prog 83 #[.pointer (some ⟨K.gs,0,none⟩),.agg (headC (renD h s)),.slice oq on oc] wi fun e w' => e=.returned (.tuple #[.agg (headC ah),.int .i64 ae])∧Below wi.heap.size wi w'):=
  Lib.hid (fun wi hi => by have:=apply_rd h hi hov (renD h s);rw [hap] at this;exact this)
 have HPL:=Lib.hid hap;clear hov hap;rw [HPL.out] at hae ⊢;simp only at hae ⊢;have hnz:(ae != 0)=true:=by simpa using hae
 clear hae
 go_enter Tryz.func54,Tryz.ntmps54
 go_upto_region 1 with fail
 clear hW1
 go_wp2_with fail
 refine hkn.mono ?_
 rintro e w1 ⟨rfl,rfl⟩
 go_upto_region 5 with fail
 refine wp_region_any (by kernel_rfl) (add5_region (w:=w) (w1:=W1) K.r K.gs K.mw w.heap.size h (renD h s) oq on oc ah ae (show 73≤73 from Nat.le_refl 73) rfl rfl (Nat.le_refl _) HB1.out HX1.out (fun wi hb => HSS.out wi (HR.out.below hb)) (fun wi hb => renamed_any h (HR.out.below hb)) (fun wi hb => HAP.out wi (HR.out.below hb)) ?_)
 intro W5 hb5 hx5;have HB5:=Lib.hid hb5;have HX5:=Lib.hid hx5;have HR5:=Lib.hid (HR.out.below hb5);clear hb5 hx5 k2 x3;simp only [Exit.then]
 apply_assumption
 go_wp2
 go_ret
 exact ⟨rfl,HR5.out.bel⟩
set_option maxHeartbeats 4000000 in
theorem add_nofrom (hr:Rd w0 w K a s mb v xs q n c) (h:HeadV) (hf:s.out.length < 4096) (hk:knownD h.kind=true) (hN:Need w0) (h0:0≤h.size) (h1:h.name.length≤1048576) (h2:h.link.length≤1048576) (ah:HeadV) (hae:applyD (lastD s.glob) s.own (renD h s)=(ah,0)) (hfe0:(fromD ah).2≠0) :
 Calls Tryz.prog 54 #[.pointer (some ⟨K.r,0,none⟩),.agg (headC h)] w fun e w' => e=.returned (.int .i64 (fromD ah).2)∧Below w0.heap.size w0 w':=by
 obtain ⟨vp,vc,hv,_,_,_⟩:=mems_own hr.row hr.bodies;subst hv;have hxl:xs.length=s.out.length:=by have:=congrArg List.length hr.out;simpa using this
 obtain ⟨W1,hW1⟩:∃ W1,w.alloc (.cells (headC h) 57)=W1:=⟨_,rfl⟩;have hB1:Below w.heap.size w W1:=by rw [← hW1];exact (Below.refl _ w).alloc (Nat.le_refl _) _
 have hX1:Blk W1 w.heap.size 57 (headC h):=by rw [← hW1];exact Blk.new w _ _
 have hR1:=hr.below hB1;have x3:=hR1.c3;have HR:=Lib.hid hr;have HB1:=Lib.hid hB1;have HX1:=Lib.hid hX1;have HR1:=Lib.hid hR1;have HXN:=Lib.hid hxl;clear hr hB1 hX1 hR1;have hnl:((xs.length:Int) == 4096)=false:=by rw [hxl];simpa using (by omega:¬ (s.out.length:Int)=4096)
 clear hxl;have k2:=HX1.out.cell 2;simp only [headC,List.getElem?_toArray,List.getElem?_cons_zero,List.getElem?_cons_succ] at k2;have hkn:=known_any h.kind W1;rw [hk] at hkn;obtain ⟨⟨oq,on,oc⟩,hov⟩:∃ x,ownV s q n c=x:=⟨_,rfl⟩
 have HSS:Hid (∀ wi,Rd w0 wi K a s mb (.slice vp xs.length vc) xs q n c → ((wi.cell? ⟨K.r,1,none⟩=some (.pointer (some ⟨K.gs,0,none⟩))∧wi.cell? ⟨K.r,2,none⟩=some (.map (some K.mw)))∧(Instr.lookup 68 (.map (some K.mw)) (.int .u8 120) false).run Tryz.prog wi=.ok (.agg #[.string ⟨#[]⟩,.slice oq on oc]) wi)):=
  Lib.hid (fun wi hi => ⟨⟨hi.c1,hi.c2⟩,look120 hi.map hov⟩)
 have HAP:Hid (∀ wi,Rd w0 wi K a s mb (.slice vp xs.length vc) xs q n c → Calls Tryz.prog 83 #[.pointer (some ⟨K.gs,0,none⟩),.agg (headC (renD h s)),.slice oq on oc] wi fun e w' => e=.returned (.tuple #[.agg (headC ah),.int .i64 0])∧Below wi.heap.size wi w'):=
  Lib.hid (fun wi hi => by have:=apply_rd h hi hov (renD h s);rw [hae] at this;exact this)
 have HPL:=Lib.hid hae;clear hov hae
 have HBD:Hid (0≤ah.size∧ah.name.length≤1048576∧ah.link.length≤1048576):=Lib.hid (by
  have:=apply_bd h HR.out h0 h1 h2;rw [HPL.out] at this
  exact this)
 have HND:=Lib.hid hN;clear hN h0 h1 h2;obtain ⟨⟨fm,fe⟩,hfd⟩:∃ x,fromD ah=x:=⟨_,rfl⟩;have hfb:fm.body=[]:=by have:=fromD_body ah;rw [hfd] at this;exact this
 have HFR:Hid (∀ wi,Tabs wi → Calls Tryz.prog 41 #[.agg (headC ah)] wi fun e w' => e=.returned (.tuple #[.agg #[.string (str fm.path),.string (str fm.target),.int .u8 (fm.kind.toNat:Int),.int .i64 fm.mode,.int .i64 fm.uid,.int .i64 fm.gid,.int .i64 fm.time,.slice none 0 0],.int .i64 fe])∧Below wi.heap.size wi w'):=
  Lib.hid (fun wi hT => by
   obtain ⟨_,b1,b2⟩:=HBD.out;have:=fromHead_any ah wi (by omega) (by omega) hT
   rw [hfd] at this;unfold memC at this;simp only [hfb,List.length_nil] at this
   exact this)
 have HFD:=Lib.hid hfd;have HFB:=Lib.hid hfb;clear hfd hfb;rw [HFD.out] at hfe0 ⊢;simp only at hfe0 ⊢;have hnz:(fe != 0)=true:=by simpa using hfe0
 clear hfe0
 go_enter Tryz.func54,Tryz.ntmps54
 go_upto_region 1 with fail
 clear hW1
 go_wp2_with fail
 refine hkn.mono ?_
 rintro e w1 ⟨rfl,rfl⟩
 go_upto_region 5 with fail
 refine wp_region_any (by kernel_rfl) (add5_region (w:=w) (w1:=W1) K.r K.gs K.mw w.heap.size h (renD h s) oq on oc ah 0 (show 73≤73 from Nat.le_refl 73) rfl rfl (Nat.le_refl _) HB1.out HX1.out (fun wi hb => HSS.out wi (HR.out.below hb)) (fun wi hb => renamed_any h (HR.out.below hb)) (fun wi hb => HAP.out wi (HR.out.below hb)) ?_)
 intro W5 hb5 hx5;have HB5:=Lib.hid hb5;have HX5:=Lib.hid hx5;have HR5:=Lib.hid (HR.out.below hb5);clear hb5 hx5 k2 x3;simp only [Exit.then]
 apply_assumption
 have b9:=HX5.out;have c0:=b9.cell 0;have c1:=b9.cell 1;have c2:=b9.cell 2;have c3:=b9.cell 3;have c4:=b9.cell 4;have c5:=b9.cell 5;have c6:=b9.cell 6;have c7:=b9.cell 7;have c8:=b9.cell 8;simp only [headC,List.getElem?_toArray,List.getElem?_cons_zero,List.getElem?_cons_succ] at c0 c1 c2 c3 c4 c5 c6 c7 c8;clear b9
 go_wp2_with fail
 refine (HFR.out _ (HR5.out.need HND.out).tabs).mono ?_
 rintro e w6 ⟨rfl,hb6⟩;have hb7:=hb6.alloc hb6.size (.cells #[.string (str fm.path),.string (str fm.target),.int .u8 (fm.kind.toNat:Int),.int .i64 fm.mode,.int .i64 fm.uid,.int .i64 fm.gid,.int .i64 fm.time,.slice none 0 0] 37);have hm7:=Blk.new w6 37 #[.string (str fm.path),.string (str fm.target),.int .u8 (fm.kind.toNat:Int),.int .i64 fm.mode,.int .i64 fm.uid,.int .i64 fm.gid,.int .i64 fm.time,.slice none 0 0];have hw6:w.heap.size < w6.heap.size:=Nat.lt_of_lt_of_le HX5.out.lt hb6.size;have HX7:=Lib.hid (HX5.out.below hb7 HX5.out.lt);have HR7:=Lib.hid (HR5.out.below hb7)
 have HM7:=Lib.hid hm7;have HW6:=Lib.hid hw6;clear hb6 hb7 hm7 hw6 c0 c1 c2 c3 c4 c5 c6 c7 c8
 go_wp2
 go_ret
 exact ⟨rfl,HR7.out.bel⟩
end
end Go.Proofs.YtdjedimjhogdoaaGreatDoor.Mem
end
section
namespace Go.Proofs.YtdjedimjhogdoaaGreatDoor.Mem
open Go.ChangeShapes Go.WideShapes Go.ChangeAt Go.RowKit Base Byt Txt Bk Mk Block Hp Head Attr Rec Path Go.Lib Go.Shelf
set_option linter.unusedVariables false
set_option maxRecDepth 100000
section
variable {w0 w w':World} {K:RK} {a:Nat} {s:RS} {mb:Option Nat} {v:Value} {xs:List MP} {q:Option Addr} {n c:Nat}
theorem Rd.fresh (h:Rd w0 w K a s mb v xs q n c) {b:Nat} (hb:w.heap.size≤b):¬ Ot K mb v b∧b≠K.g:=by
 obtain ⟨t,hs⟩:=h.src;have h1:=h.blk.lt;have h2:=hs.lt;have h3:=h.st.lt;have h4:=h.map.lt;refine ⟨fun e => ?_,by omega⟩
 rcases e with e | e | e | e | e
 ·omega
 ·omega
 ·omega
 ·have:=h.st.ltB e;omega
 ·have:=(h.row.lt b e).2;omega
theorem Rd.foreign {wo:World} {a0:Nat} (ho:Rd w0 wo K a0 s mb v xs q n c) (h:Rd w0 w K a s mb v xs q n c) (hk:Kept (fun k => wo.heap.size≤k) w w'):Rd w0 w' K a s mb v xs q n c:=by
 obtain ⟨t0,hs0⟩:=ho.src;obtain ⟨t,hs⟩:=h.src;have l1:=ho.blk.lt;have l2:=hs0.lt;have l3:=ho.st.lt;have l4:=ho.map.lt;have l5:=ho.bel.size
 exact {
  bel:=h.bel.trans (hk.below h.bel.size (fun k hk => Nat.le_trans l5 hk))
  blk:=h.blk.keptS hk (by omega)
  src:=⟨t,hs.kept hk (by omega) (fun h0 y hy e => by have:=bat_lt hs0.bat h0 hy;omega) (fun h0 y hy e => by have:=iat_lt hs0.iat h0 hy;omega)⟩
  off:=h.off
  st:=h.st.kept hk (fun k hk' e => by
   rcases hk' with rfl | hk'
   ·omega
   ·have:=ho.st.ltB hk';omega)
  map:=h.map.kept hk (by omega)
  own:=recsAt_kept h.own hk (fun h0 y hy e => by
   obtain ⟨b',o,hq,hlt,_⟩:=ho.own.2 h0;rw [hy] at hq
   cases hq
   have e:wo.heap.size≤b':=e
   omega)
  own0:=h.own0
  row:=ownsRow_kept h.row hk (fun k hk' e => by have:=(ho.row.lt k hk').2;omega)
  out:=h.out
  bodies:=fun x hx => (h.bodies x hx).kept hk (fun h0 y hy e => by have:=bat_lt (ho.bodies x hx).bat h0 hy;omega)
  apart:=h.apart
  sp:=h.sp
  sq:=h.sq
  ne:=h.ne
  neB:=h.neB
  neV:=h.neV
  base:=h.base
  many:=h.many
  gl:=h.gl
  ol:=h.ol
  nl:=h.nl
  ll:=h.ll }
set_option maxHeartbeats 4000000 in
theorem add_short (hr:Rd w0 w K (a+512) s mb v xs q n c) (h:HeadV) (hf:s.out.length < 4096) (hk:knownD h.kind=true) (hN:Need w0) (h0:0≤h.size) (h1:h.name.length≤1048576) (h2:h.link.length≤1048576) (ah:HeadV) (hae:applyD (lastD s.glob) s.own (renD h s)=(ah,0)) (hfe0:(fromD ah).2=0) (k:Nat) (hsz:ah.size=(k:Int)) (hkl:k≤1048576) (hl:K.S.n < a+512+padN k) :
 Calls Tryz.prog 54 #[.pointer (some ⟨K.r,0,none⟩),.agg (headC h)] w fun e w' => e=.returned (.int .i64 2)∧Below w0.heap.size w0 w':=by
 obtain ⟨vp,vc,hv,_,_,_⟩:=mems_own hr.row hr.bodies;subst hv;have hxl:xs.length=s.out.length:=by have:=congrArg List.length hr.out;simpa using this
 obtain ⟨W1,hW1⟩:∃ W1,w.alloc (.cells (headC h) 57)=W1:=⟨_,rfl⟩;have hB1:Below w.heap.size w W1:=by rw [← hW1];exact (Below.refl _ w).alloc (Nat.le_refl _) _
 have hX1:Blk W1 w.heap.size 57 (headC h):=by rw [← hW1];exact Blk.new w _ _
 have hR1:=hr.below hB1;have x3:=hR1.c3;have HR:=Lib.hid hr;have HB1:=Lib.hid hB1;have HX1:=Lib.hid hX1;have HR1:=Lib.hid hR1;have HXN:=Lib.hid hxl;clear hr hB1 hX1 hR1;have hnl:((xs.length:Int) == 4096)=false:=by rw [hxl];simpa using (by omega:¬ (s.out.length:Int)=4096)
 clear hxl;have k2:=HX1.out.cell 2;simp only [headC,List.getElem?_toArray,List.getElem?_cons_zero,List.getElem?_cons_succ] at k2;have hkn:=known_any h.kind W1;rw [hk] at hkn;obtain ⟨⟨oq,on,oc⟩,hov⟩:∃ x,ownV s q n c=x:=⟨_,rfl⟩
 have HSS:Hid (∀ wi,Rd w0 wi K (a+512) s mb (.slice vp xs.length vc) xs q n c → ((wi.cell? ⟨K.r,1,none⟩=some (.pointer (some ⟨K.gs,0,none⟩))∧wi.cell? ⟨K.r,2,none⟩=some (.map (some K.mw)))∧(Instr.lookup 68 (.map (some K.mw)) (.int .u8 120) false).run Tryz.prog wi=.ok (.agg #[.string ⟨#[]⟩,.slice oq on oc]) wi)):=
  Lib.hid (fun wi hi => ⟨⟨hi.c1,hi.c2⟩,look120 hi.map hov⟩)
 have HAP:Hid (∀ wi,Rd w0 wi K (a+512) s mb (.slice vp xs.length vc) xs q n c → Calls Tryz.prog 83 #[.pointer (some ⟨K.gs,0,none⟩),.agg (headC (renD h s)),.slice oq on oc] wi fun e w' => e=.returned (.tuple #[.agg (headC ah),.int .i64 0])∧Below wi.heap.size wi w'):=
  Lib.hid (fun wi hi => by have:=apply_rd h hi hov (renD h s);rw [hae] at this;exact this)
 have HPL:=Lib.hid hae;clear hov hae
 have HBD:Hid (0≤ah.size∧ah.name.length≤1048576∧ah.link.length≤1048576):=Lib.hid (by
  have:=apply_bd h HR.out h0 h1 h2;rw [HPL.out] at this
  exact this)
 have HND:=Lib.hid hN;clear hN h0 h1 h2;obtain ⟨⟨fm,fe⟩,hfd⟩:∃ x,fromD ah=x:=⟨_,rfl⟩;have hfb:fm.body=[]:=by have:=fromD_body ah;rw [hfd] at this;exact this
 have HFR:Hid (∀ wi,Tabs wi → Calls Tryz.prog 41 #[.agg (headC ah)] wi fun e w' => e=.returned (.tuple #[.agg #[.string (str fm.path),.string (str fm.target),.int .u8 (fm.kind.toNat:Int),.int .i64 fm.mode,.int .i64 fm.uid,.int .i64 fm.gid,.int .i64 fm.time,.slice none 0 0],.int .i64 fe])∧Below wi.heap.size wi w'):=
  Lib.hid (fun wi hT => by
   obtain ⟨_,b1,b2⟩:=HBD.out;have:=fromHead_any ah wi (by omega) (by omega) hT
   rw [hfd] at this;unfold memC at this;simp only [hfb,List.length_nil] at this
   exact this)
 have HFD:=Lib.hid hfd;have HFB:=Lib.hid hfb;clear hfd hfb;rw [HFD.out] at hfe0;simp only at hfe0;subst hfe0;have HBR:=Lib.hid hl;have HKL:=Lib.hid hkl;have HSZ:=Lib.hid hsz;clear hl hkl hsz
 go_enter Tryz.func54,Tryz.ntmps54
 go_upto_region 1 with fail
 clear hW1
 go_wp2_with fail
 refine hkn.mono ?_
 rintro e w1 ⟨rfl,rfl⟩
 go_upto_region 5 with fail
 refine wp_region_any (by kernel_rfl) (add5_region (w:=w) (w1:=W1) K.r K.gs K.mw w.heap.size h (renD h s) oq on oc ah 0 (show 73≤73 from Nat.le_refl 73) rfl rfl (Nat.le_refl _) HB1.out HX1.out (fun wi hb => HSS.out wi (HR.out.below hb)) (fun wi hb => renamed_any h (HR.out.below hb)) (fun wi hb => HAP.out wi (HR.out.below hb)) ?_)
 intro W5 hb5 hx5;have HB5:=Lib.hid hb5;have HX5:=Lib.hid hx5;have HR5:=Lib.hid (HR.out.below hb5);clear hb5 hx5 k2 x3;simp only [Exit.then]
 apply_assumption
 have b9:=HX5.out;have c0:=b9.cell 0;have c1:=b9.cell 1;have c2:=b9.cell 2;have c3:=b9.cell 3;have c4:=b9.cell 4;have c5:=b9.cell 5;have c6:=b9.cell 6;have c7:=b9.cell 7;have c8:=b9.cell 8;simp only [headC,List.getElem?_toArray,List.getElem?_cons_zero,List.getElem?_cons_succ] at c0 c1 c2 c3 c4 c5 c6 c7 c8;clear b9
 go_wp2_with fail
 refine (HFR.out _ (HR5.out.need HND.out).tabs).mono ?_
 rintro e w6 ⟨rfl,hb6⟩;have hb7:=hb6.alloc hb6.size (.cells #[.string (str fm.path),.string (str fm.target),.int .u8 (fm.kind.toNat:Int),.int .i64 fm.mode,.int .i64 fm.uid,.int .i64 fm.gid,.int .i64 fm.time,.slice none 0 0] 37);have hm7:=Blk.new w6 37 #[.string (str fm.path),.string (str fm.target),.int .u8 (fm.kind.toNat:Int),.int .i64 fm.mode,.int .i64 fm.uid,.int .i64 fm.gid,.int .i64 fm.time,.slice none 0 0];have hw6:w.heap.size < w6.heap.size:=Nat.lt_of_lt_of_le HX5.out.lt hb6.size;have HX7:=Lib.hid (HX5.out.below hb7 HX5.out.lt);have HR7:=Lib.hid (HR5.out.below hb7)
 have HM7:=Lib.hid hm7;have HW6:=Lib.hid hw6;clear hb6 hb7 hm7 hw6 c0 c1 c2 c3 c4 c5 c6 c7 c8;obtain ⟨W7,hW7⟩:∃ W7,w6.alloc (.cells #[.string (str fm.path),.string (str fm.target),.int .u8 (fm.kind.toNat:Int),.int .i64 fm.mode,.int .i64 fm.uid,.int .i64 fm.gid,.int .i64 fm.time,.slice none 0 0] 37)=W7:=⟨_,rfl⟩;rw [hW7] at HX7 HR7 HM7;have HW7:=Lib.hid hW7;clear hW7;have x0:=HR7.out.c0;have z7:=HX7.out.cell 7;simp only [headC,List.getElem?_toArray,List.getElem?_cons_zero,List.getElem?_cons_succ,HSZ.out] at z7;have hRd:=HR7.out.idle ((Kept.refl noneB W7).drew);obtain ⟨t,hs⟩:=hRd.src
 have hne:w.heap.size≠K.g∧w6.heap.size≠K.g:=by
  obtain ⟨t',hs'⟩:=HR.out.src;have:=hs'.lt;have:=HW6.out;exact ⟨by omega,by omega⟩
 have HRD:=Lib.hid hRd;have HNE:=Lib.hid hne;have hB:=body_no W7.drew K.g (a+512) t K.S hs hRd.off k HKL.out HBR.out;clear hs hRd hne
 go_upto_region 11 with fail
 rw [HW7.out]
 go_region_held_law (fun w' => w'.cell? ⟨K.r,0,none⟩=some (.pointer (some ⟨K.g,0,none⟩))∧w'.cell? ⟨w.heap.size,7,none⟩=some (.int .i64 (k:Int))) (first | exact ⟨x0,z7⟩ | exact hS8 | exact hS9)
  (first
   | (go_at_call 79
      refine hB.mono ?_
      rintro e w8 ⟨t',rfl,h4,h5⟩;have H8:=Lib.hid (HRD.out.moved h5 ⟨t',h4⟩);have HX8:Hid (Blk w8 w.heap.size 57 (headC ah)):=Lib.hid ((HX7.out.drew).keptS h5 HNE.out.1);have HM8:Hid (Blk w8 w6.heap.size 37 #[.string (str fm.path),.string (str fm.target),.int .u8 (fm.kind.toNat:Int),.int .i64 fm.mode,.int .i64 fm.uid,.int .i64 fm.gid,.int .i64 fm.time,.slice none 0 0]):=Lib.hid ((HM7.out.drew).keptS h5 HNE.out.2);have HB8:=Lib.hid h5;have hS8:w8.cell? ⟨K.r,0,none⟩=some (.pointer (some ⟨K.g,0,none⟩))∧w8.cell? ⟨w.heap.size,7,none⟩=some (.int .i64 (k:Int)):=⟨H8.out.c0,by have:=HX8.out.cell 7;simp only [headC,List.getElem?_toArray,List.getElem?_cons_zero,List.getElem?_cons_succ,HSZ.out] at this;exact this⟩
      have hS9:(w8.setCell ⟨w6.heap.size,7,none⟩ (.slice none 0 0)).cell? ⟨K.r,0,none⟩=some (.pointer (some ⟨K.g,0,none⟩))∧(w8.setCell ⟨w6.heap.size,7,none⟩ (.slice none 0 0)).cell? ⟨w.heap.size,7,none⟩=some (.int .i64 (k:Int)):=
       ⟨(H8.out.blk.other (b':=w6.heap.size) (i:=7) (by have:=HR.out.blk.lt;have:=HW6.out;omega) _).cell 0,by have:=(HX8.out.other (b':=w6.heap.size) (i:=7) (by have:=HW6.out;omega) (.slice none 0 0)).cell 7;simp only [headC,List.getElem?_toArray,List.getElem?_cons_zero,List.getElem?_cons_succ,HSZ.out] at this;exact this⟩
      have m7:=HM8.out.cell 7;have fm7:=HM8.out.frozen 7;simp only [List.getElem?_toArray,List.getElem?_cons_zero,List.getElem?_cons_succ] at m7
      clear h4 h5))
 clear hB hS8 x0 z7
 go_wp2
 go_ret
 exact ⟨rfl,H8.out.bel.setCell (p:=⟨w6.heap.size,7,none⟩) (Nat.le_trans HR.out.bel.size (Nat.le_of_lt HW6.out)) _⟩
set_option maxHeartbeats 8000000 in
theorem add_ok (hr:Rd w0 w K (a+512) s mb v xs q n c) (h:HeadV) (hf:s.out.length < 4096) (hk:knownD h.kind=true) (hN:Need w0) (h0:0≤h.size) (h1:h.name.length≤1048576) (h2:h.link.length≤1048576) (ah:HeadV) (hae:applyD (lastD s.glob) s.own (renD h s)=(ah,0)) (hfe0:(fromD ah).2=0) (k:Nat) (hsz:ah.size=(k:Int)) (hkl:k≤1048576) (X:List UInt8) (hX:(K.S.bs.drop (a+512)).take k=X) (hl:a+512+padN k≤K.S.n) :
 Calls Tryz.prog 54 #[.pointer (some ⟨K.r,0,none⟩),.agg (headC h)] w fun e w' => e=.returned (.int .i64 0)∧Left w0 K (a+512+padN k) { s with out:=s.out++[{ (fromD ah).1 with body:=X }],own:=[],name:=none,link:=none,hasX:=false } w':=by
 have HXL:Hid (X.length=k):=Lib.hid (by
  obtain ⟨t,hs⟩:=hr.src;have:=padN_ge k;have:=hs.len
  rw [← hX,List.length_take,List.length_drop];omega)
 obtain ⟨vp,vc,hv,_,_,_⟩:=mems_own hr.row hr.bodies;subst hv;have hxl:xs.length=s.out.length:=by have:=congrArg List.length hr.out;simpa using this
 obtain ⟨W1,hW1⟩:∃ W1,w.alloc (.cells (headC h) 57)=W1:=⟨_,rfl⟩;have hB1:Below w.heap.size w W1:=by rw [← hW1];exact (Below.refl _ w).alloc (Nat.le_refl _) _
 have hX1:Blk W1 w.heap.size 57 (headC h):=by rw [← hW1];exact Blk.new w _ _
 have hR1:=hr.below hB1;have x3:=hR1.c3;have HR:=Lib.hid hr;have HB1:=Lib.hid hB1;have HX1:=Lib.hid hX1;have HR1:=Lib.hid hR1;have HXN:=Lib.hid hxl;clear hr hB1 hX1 hR1;have hnl:((xs.length:Int) == 4096)=false:=by rw [hxl];simpa using (by omega:¬ (s.out.length:Int)=4096)
 clear hxl;have k2:=HX1.out.cell 2;simp only [headC,List.getElem?_toArray,List.getElem?_cons_zero,List.getElem?_cons_succ] at k2;have hkn:=known_any h.kind W1;rw [hk] at hkn;obtain ⟨⟨oq,on,oc⟩,hov⟩:∃ x,ownV s q n c=x:=⟨_,rfl⟩
 have HSS:Hid (∀ wi,Rd w0 wi K (a+512) s mb (.slice vp xs.length vc) xs q n c → ((wi.cell? ⟨K.r,1,none⟩=some (.pointer (some ⟨K.gs,0,none⟩))∧wi.cell? ⟨K.r,2,none⟩=some (.map (some K.mw)))∧(Instr.lookup 68 (.map (some K.mw)) (.int .u8 120) false).run Tryz.prog wi=.ok (.agg #[.string ⟨#[]⟩,.slice oq on oc]) wi)):=
  Lib.hid (fun wi hi => ⟨⟨hi.c1,hi.c2⟩,look120 hi.map hov⟩)
 have HAP:Hid (∀ wi,Rd w0 wi K (a+512) s mb (.slice vp xs.length vc) xs q n c → Calls Tryz.prog 83 #[.pointer (some ⟨K.gs,0,none⟩),.agg (headC (renD h s)),.slice oq on oc] wi fun e w' => e=.returned (.tuple #[.agg (headC ah),.int .i64 0])∧Below wi.heap.size wi w'):=
  Lib.hid (fun wi hi => by have:=apply_rd h hi hov (renD h s);rw [hae] at this;exact this)
 have HPL:=Lib.hid hae;clear hov hae
 have HBD:Hid (0≤ah.size∧ah.name.length≤1048576∧ah.link.length≤1048576):=Lib.hid (by
  have:=apply_bd h HR.out h0 h1 h2;rw [HPL.out] at this
  exact this)
 have HND:=Lib.hid hN;clear hN h0 h1 h2;obtain ⟨⟨fm,fe⟩,hfd⟩:∃ x,fromD ah=x:=⟨_,rfl⟩;have hfb:fm.body=[]:=by have:=fromD_body ah;rw [hfd] at this;exact this
 have HFR:Hid (∀ wi,Tabs wi → Calls Tryz.prog 41 #[.agg (headC ah)] wi fun e w' => e=.returned (.tuple #[.agg #[.string (str fm.path),.string (str fm.target),.int .u8 (fm.kind.toNat:Int),.int .i64 fm.mode,.int .i64 fm.uid,.int .i64 fm.gid,.int .i64 fm.time,.slice none 0 0],.int .i64 fe])∧Below wi.heap.size wi w'):=
  Lib.hid (fun wi hT => by
   obtain ⟨_,b1,b2⟩:=HBD.out;have:=fromHead_any ah wi (by omega) (by omega) hT
   rw [hfd] at this;unfold memC at this;simp only [hfb,List.length_nil] at this
   exact this)
 have HFD:=Lib.hid hfd;have HFB:=Lib.hid hfb;clear hfd hfb;rw [HFD.out] at hfe0;simp only at hfe0;subst hfe0;rw [HFD.out];have HF:=Lib.hid hf;have HBR:=Lib.hid (And.intro hX hl);have HKL:=Lib.hid hkl;have HSZ:=Lib.hid hsz;clear hl hkl hsz hX hf
 go_enter Tryz.func54,Tryz.ntmps54
 go_upto_region 1 with fail
 clear hW1
 go_wp2_with fail
 refine hkn.mono ?_
 rintro e w1 ⟨rfl,rfl⟩
 go_upto_region 5 with fail
 refine wp_region_any (by kernel_rfl) (add5_region (w:=w) (w1:=W1) K.r K.gs K.mw w.heap.size h (renD h s) oq on oc ah 0 (show 73≤73 from Nat.le_refl 73) rfl rfl (Nat.le_refl _) HB1.out HX1.out (fun wi hb => HSS.out wi (HR.out.below hb)) (fun wi hb => renamed_any h (HR.out.below hb)) (fun wi hb => HAP.out wi (HR.out.below hb)) ?_)
 intro W5 hb5 hx5;have HB5:=Lib.hid hb5;have HX5:=Lib.hid hx5;have HR5:=Lib.hid (HR.out.below hb5);clear hb5 hx5 k2 x3;simp only [Exit.then]
 apply_assumption
 have b9:=HX5.out;have c0:=b9.cell 0;have c1:=b9.cell 1;have c2:=b9.cell 2;have c3:=b9.cell 3;have c4:=b9.cell 4;have c5:=b9.cell 5;have c6:=b9.cell 6;have c7:=b9.cell 7;have c8:=b9.cell 8;simp only [headC,List.getElem?_toArray,List.getElem?_cons_zero,List.getElem?_cons_succ] at c0 c1 c2 c3 c4 c5 c6 c7 c8;clear b9
 go_wp2_with fail
 refine (HFR.out _ (HR5.out.need HND.out).tabs).mono ?_
 rintro e w6 ⟨rfl,hb6⟩;have hb7:=hb6.alloc hb6.size (.cells #[.string (str fm.path),.string (str fm.target),.int .u8 (fm.kind.toNat:Int),.int .i64 fm.mode,.int .i64 fm.uid,.int .i64 fm.gid,.int .i64 fm.time,.slice none 0 0] 37);have hm7:=Blk.new w6 37 #[.string (str fm.path),.string (str fm.target),.int .u8 (fm.kind.toNat:Int),.int .i64 fm.mode,.int .i64 fm.uid,.int .i64 fm.gid,.int .i64 fm.time,.slice none 0 0];have hw6:w.heap.size < w6.heap.size:=Nat.lt_of_lt_of_le HX5.out.lt hb6.size;have HX7:=Lib.hid (HX5.out.below hb7 HX5.out.lt);have HR7:=Lib.hid (HR5.out.below hb7)
 have HM7:=Lib.hid hm7;have HW6:=Lib.hid hw6;clear hb6 hb7 hm7 hw6 c0 c1 c2 c3 c4 c5 c6 c7 c8;obtain ⟨W7,hW7⟩:∃ W7,w6.alloc (.cells #[.string (str fm.path),.string (str fm.target),.int .u8 (fm.kind.toNat:Int),.int .i64 fm.mode,.int .i64 fm.uid,.int .i64 fm.gid,.int .i64 fm.time,.slice none 0 0] 37)=W7:=⟨_,rfl⟩;rw [hW7] at HX7 HR7 HM7;have HW7:=Lib.hid hW7;clear hW7;have x0:=HR7.out.c0;have z7:=HX7.out.cell 7;simp only [headC,List.getElem?_toArray,List.getElem?_cons_zero,List.getElem?_cons_succ,HSZ.out] at z7;have hRd:=HR7.out.idle ((Kept.refl noneB W7).drew);obtain ⟨t,hs⟩:=hRd.src
 have hne:w.heap.size≠K.g∧w6.heap.size≠K.g:=by
  obtain ⟨t',hs'⟩:=HR.out.src;have:=hs'.lt;have:=HW6.out;exact ⟨by omega,by omega⟩
 have HRD:=Lib.hid hRd;have HNE:=Lib.hid hne;have hB:=body_ok W7.drew K.g (a+512) t K.S hs hRd.off k HKL.out X HBR.out.1 HBR.out.2;clear hs hRd hne
 go_upto_region 11 with fail
 rw [HW7.out]
 go_region_held_law (fun w' => w'.cell? ⟨K.r,0,none⟩=some (.pointer (some ⟨K.g,0,none⟩))∧w'.cell? ⟨w.heap.size,7,none⟩=some (.int .i64 (k:Int))) (first | exact ⟨x0,z7⟩ | exact hS8 | exact hS9)
  (first
   | (go_at_call 79
      refine hB.mono ?_
      rintro e w8 ⟨p,t',rfl,h2,h3,h4,h5⟩;have H8:=Lib.hid (HRD.out.moved h5 ⟨t',h4⟩);have HX8:Hid (Blk w8 w.heap.size 57 (headC ah)):=Lib.hid ((HX7.out.drew).keptS h5 HNE.out.1);have HM8:Hid (Blk w8 w6.heap.size 37 #[.string (str fm.path),.string (str fm.target),.int .u8 (fm.kind.toNat:Int),.int .i64 fm.mode,.int .i64 fm.uid,.int .i64 fm.gid,.int .i64 fm.time,.slice none 0 0]):=Lib.hid ((HM7.out.drew).keptS h5 HNE.out.2);have HB8:=Lib.hid (And.intro h2 h3);have hS8:w8.cell? ⟨K.r,0,none⟩=some (.pointer (some ⟨K.g,0,none⟩))∧w8.cell? ⟨w.heap.size,7,none⟩=some (.int .i64 (k:Int)):=⟨H8.out.c0,by have:=HX8.out.cell 7;simp only [headC,List.getElem?_toArray,List.getElem?_cons_zero,List.getElem?_cons_succ,HSZ.out] at this;exact this⟩
      have hS9:(w8.setCell ⟨w6.heap.size,7,none⟩ (.slice p k k)).cell? ⟨K.r,0,none⟩=some (.pointer (some ⟨K.g,0,none⟩))∧(w8.setCell ⟨w6.heap.size,7,none⟩ (.slice p k k)).cell? ⟨w.heap.size,7,none⟩=some (.int .i64 (k:Int)):=
       ⟨(H8.out.blk.other (b':=w6.heap.size) (i:=7) (by have:=HR.out.blk.lt;have:=HW6.out;omega) _).cell 0,by have:=(HX8.out.other (b':=w6.heap.size) (i:=7) (by have:=HW6.out;omega) (.slice p k k)).cell 7;simp only [headC,List.getElem?_toArray,List.getElem?_cons_zero,List.getElem?_cons_succ,HSZ.out] at this;exact this⟩
      have m7:=HM8.out.cell 7;have fm7:=HM8.out.frozen 7;simp only [List.getElem?_toArray,List.getElem?_cons_zero,List.getElem?_cons_succ] at m7
      clear h2 h3 h4 h5))
 clear hB hS8 x0 z7
 have hm9:Blk (w8.setCell ⟨w6.heap.size,7,none⟩ (.slice p k k)) w6.heap.size 37 (MP.mk { fm with body:=X } p k).cs:=by
  have h9:=HM8.out.set 7 (.slice p k k) (by decide:7 < 8)
  have e:(MP.mk { fm with body:=X } p k).cs=#[.string (str fm.path),.string (str fm.target),.int .u8 (fm.kind.toNat:Int),.int .i64 fm.mode,.int .i64 fm.uid,.int .i64 fm.gid,.int .i64 fm.time,.slice p X.length k]:=rfl
  rw [e,HXL.out];exact h9
 have hk9:Kept (fun k => w.heap.size≤k) w8 (w8.setCell ⟨w6.heap.size,7,none⟩ (.slice p k k)):=(Kept.refl _ w8).setCell (a:=⟨w6.heap.size,7,none⟩) (.inr (Nat.le_of_lt HW6.out)) _
 have hR9:=Rd.foreign HR.out H8.out hk9
 have hb9:BAt (w8.setCell ⟨w6.heap.size,7,none⟩ (.slice p k k)) p k X:=HB8.out.1.kept ((Kept.refl (oneB w6.heap.size) w8).setCell (a:=⟨w6.heap.size,7,none⟩) (.inr rfl) _) (fun _ x hx e => by
  have h1:=HB8.out.2 x hx;have h2:=HM7.out.lt;have h3:x.block=w6.heap.size:=e;have h4:W7.drew.heap.size=W7.heap.size:=rfl
  omega)
 obtain ⟨W9,hW9⟩:∃ W9,w8.setCell ⟨w6.heap.size,7,none⟩ (.slice p k k)=W9:=⟨_,rfl⟩;rw [hW9] at hm9 hR9 hb9;have HW9:=Lib.hid hW9;have HM9:=Lib.hid hm9;have HR9:=Lib.hid hR9;have HB9:=Lib.hid hb9;clear hm9 hR9 hb9 hk9 hS9 m7 fm7 hW9
 go_upto_region 14 with fail
 rw [HW9.out];refine wp_region_any (by kernel_rfl) (add14_region (w1:=W9) w0.heap.size K.r w6.heap.size (.slice vp xs.length vc) xs (MP.mk { fm with body:=X } p k) (readerC K (.slice vp xs.length vc)) (show 73≤73 from Nat.le_refl 73) rfl rfl HM9.out HR9.out.blk rfl (fun e => (HR9.out.neV _ e).1 rfl) HR9.out.row HR9.out.bel.size (by have:=HXN.out;have:=HF.out;omega) ?_)
 intro γ wB hA;obtain ⟨wA,g1,g2,g3,g4⟩:=hA;have hRA:=HR9.out.below g1;have hmap:=hRA.map_added (v':=γ.va) g3;have hkB:Kept (fun k => (Value.slice vp xs.length vc).ownBlock=some k) wA wB:=(Kept.refl _ wA).grown g3 (fun k hk => .inr hk)
 have hbC:=((hRA.blk.keptS hkB (fun e => (hRA.neV _ e).1 rfl)).set 3 γ.va (by decide:3 < 4)).cell 2
 have c2:(wB.setCell ⟨K.r,3,none⟩ γ.va).cell? ⟨K.r,2,none⟩=some (.map (some K.mw)):=hbC;obtain ⟨w2,hrun,hm2,hk2,hs2⟩:=hmap.cleared Tryz.underlying68 0;have hy:BodyAt wA (MP.mk { fm with body:=X } p k):=⟨by show BAt wA p X.length X;rw [HXL.out];exact HB9.out.below g1,by show X.length≤k;rw [HXL.out];exact Nat.le_refl _,by show k≤maxLen;have:=HKL.out;unfold maxLen;omega⟩
 have F:=Lib.hid (hRA.added g2 g3 g4 hy (fun _ z hz => HRD.out.fresh (HB8.out.2 z hz)) HF.out hm2 hk2)
 clear g1 g2 g3 g4 hRA hmap hkB hbC hm2 hk2 hs2 hy;simp only [Exit.then]
 apply_assumption
 go_wp2
 go_ret
 exact ⟨rfl,mb,γ.va,_,none,0,0,F.out⟩
end
end Go.Proofs.YtdjedimjhogdoaaGreatDoor.Mem
end
section
namespace Go.Proofs.YtdjedimjhogdoaaGreatDoor.Mem
open Go.ChangeShapes Go.WideShapes Go.ChangeAt Go.RowKit Base Byt Txt Bk Mk Block Hp Head Attr Rec Path Go.Lib Go.Shelf
set_option linter.unusedVariables false
set_option maxRecDepth 100000
section
variable {w0 w w':World} {K:RK} {a:Nat} {s:RS} {mb:Option Nat} {v:Value} {xs:List MP} {q:Option Addr} {n c:Nat}
theorem known_is (k:UInt8):knownD k=true ↔ ¬ (k≠48∧k≠49∧k≠50∧k≠53):=by
 unfold knownD;simp only [Bool.or_eq_true,beq_iff_eq];constructor
 ·rintro (((h | h) | h) | h) ⟨h1,h2,h3,h4⟩
  ·exact h1 h
  ·exact h2 h
  ·exact h3 h
  ·exact h4 h
 ·intro h
  by_cases h1:k=48
  ·exact .inl (.inl (.inl h1))
  ·by_cases h2:k=49
   ·exact .inl (.inl (.inr h2))
   ·by_cases h3:k=50
    ·exact .inl (.inr h3)
    ·by_cases h4:k=53
     ·exact .inr h4
     ·exact absurd ⟨h1,h2,h3,h4⟩ h
theorem add_any (hr:Rd w0 w K (a+512) s mb v xs q n c) (h:HeadV) (hN:Need w0) (h0:0≤h.size) (h1:h.name.length≤1048576) (h2:h.link.length≤1048576) :
 Calls Tryz.prog 54 #[.pointer (some ⟨K.r,0,none⟩),.agg (headC h)] w (StepPost w0 K a (memD (K.S.bs.drop a) h s)):=by
 obtain ⟨t,hs⟩:=hr.src;have hlen:=hs.len;have hle:=hs.le;have hLL:(K.S.bs.drop a).length=K.S.n - a:=by rw [List.length_drop,hlen]
 unfold memD
 by_cases hf:4096≤s.out.length
 ·rw [if_pos hf]
  exact (add_full hr h (Nat.le_antisymm hr.many hf)).mono fun e w' h => h
 ·rw [if_neg hf]
  have hf':s.out.length < 4096:=by omega
  by_cases hk:h.kind≠48∧h.kind≠49∧h.kind≠50∧h.kind≠53
  ·rw [if_pos hk]
   exact (add_odd hr h hf' (by
    cases hx:knownD h.kind with
    | false => rfl
    | true => exact absurd hk ((known_is _).1 hx))).mono fun e w' h => h
  ·rw [if_neg hk,memOf_is]
   have hk':=(known_is _).2 hk
   by_cases ha:(applyD (lastD s.glob) s.own (renD h s)).2≠0
   ·rw [if_pos ha]
    exact (add_noapply hr h hf' hk' ha).mono fun e w' h => h
   ·rw [if_neg ha]
    have ha':applyD (lastD s.glob) s.own (renD h s)=((applyD (lastD s.glob) s.own (renD h s)).1,0):=Prod.ext rfl (Classical.byContradiction ha);have hb:=apply_bd h hr h0 h1 h2;obtain ⟨ah,hah⟩:∃ x,(applyD (lastD s.glob) s.own (renD h s)).1=x:=⟨_,rfl⟩;rw [hah] at ha' hb ⊢
    by_cases hfr:(fromD ah).2≠0
    ·rw [if_pos hfr]
     exact (add_nofrom hr h hf' hk' hN h0 h1 h2 ah ha' hfr).mono fun e w' h => h
    ·rw [if_neg hfr]
     have hfr':(fromD ah).2=0:=Classical.byContradiction hfr;have hsz:=fromD_size hfr';obtain ⟨k,hk0⟩:∃ k:Nat,ah.size=(k:Int):=⟨ah.size.toNat,by omega⟩
     have hkl:k≤1048576:=by omega
     have hbk:blocksOf k=padN k:=rfl;simp only;unfold bodyN;rw [hk0,Int.toNat_natCast,hLL]
     by_cases h3:K.S.n < a+512+padN k
     ·rw [if_pos (by rw [hbk];omega)]
      exact (add_short hr h hf' hk' hN h0 h1 h2 ah ha' hfr' k hk0 hkl h3).mono fun e w' h => h
     ·rw [if_neg (by rw [hbk];omega)]
      simp only;obtain ⟨X,hX⟩:∃ X,(K.S.bs.drop (a+512)).take k=X:=⟨_,rfl⟩;rw [List.drop_drop,hX,hbk];refine (add_ok hr h hf' hk' hN h0 h1 h2 ah ha' hfr' k hk0 hkl X hX (by omega)).mono ?_
      rintro e w' ⟨rfl,hb⟩;rw [Nat.add_assoc] at hb;exact ⟨rfl,hb⟩
theorem blk_ok (w:World) (g a t:Nat) (S:Sv) (h:Block.Src w g S a t) (ho:S.off g) (X:List UInt8) (hX:(S.bs.drop a).take 512=X) (hl:a+512≤S.n) :
 Calls Tryz.prog 49 #[.pointer (some ⟨g,0,none⟩)] w fun e w' => ∃ p c t',e=.returned (.tuple #[.slice p 512 c,.int .i64 0])∧512≤c∧c≤maxLen∧BAt w' p 512 X∧Block.Src w' g S (a+512) t'∧Kept (oneB g) w w':=by
 refine (srcBlock_any w g a t S h ho).mono ?_
 rintro e w' (⟨h1,_⟩ | ⟨_,h2⟩)
 ·omega
 ·rcases h2 with ⟨_,v,rfl,h3,⟨t',h4⟩,h5⟩ | ⟨h1,_⟩
  ·obtain ⟨p,c,rfl,h6,h7,h8,_,_⟩:=h3.slice
   rw [hX] at h8;exact ⟨p,c,t',rfl,h6,h7,h8,h4,h5⟩
  ·omega
theorem blk_no (w:World) (g a t:Nat) (S:Sv) (h:Block.Src w g S a t) (ho:S.off g) (hl:S.n < a+512) :
 Calls Tryz.prog 49 #[.pointer (some ⟨g,0,none⟩)] w fun e w' => ∃ E a' t',(E=14 ∨ E=2)∧e=.returned (.tuple #[.slice none 0 0,.int .i64 E])∧Block.Src w' g S a' t'∧Kept (oneB g) w w':=by
 refine (srcBlock_any w g a t S h ho).mono ?_
 rintro e w' (⟨_,rfl,⟨t',h1⟩,h2⟩ | ⟨_,h2⟩)
 ·exact ⟨14,_,t',.inl rfl,rfl,h1,h2⟩
 ·rcases h2 with ⟨h3,_⟩ | ⟨_,rfl,⟨t',h4⟩,h5⟩
  ·omega
  ·exact ⟨2,_,t',.inr rfl,rfl,h4,h5⟩
def NextPost (w0:World) (K:RK) (a:Nat) (s:RS) (mb:Option Nat) (v:Value) (xs:List MP) (q:Option Addr) (n c:Nat) (st:Step) (e:Ending) (w':World):Prop:=
 match st with
 | .fault er => (∃ b,e=.returned (.tuple #[.bool b,.int .i64 er]))∧Below w0.heap.size w0 w'
 | .done => e=.returned (.tuple #[.bool false,.int .i64 0]) ∧ ∃ a',Rd w0 w' K a' s mb v xs q n c
 | .next k s' => e=.returned (.tuple #[.bool true,.int .i64 0])∧Left w0 K (a+k) s' w'
theorem next_short (hr:Rd w0 w K a s mb v xs q n c) (hl:K.S.n < a+512) :
 Calls Tryz.prog 31 #[.pointer (some ⟨K.r,0,none⟩)] w fun e w' => e=.returned (.tuple #[.bool false,.int .i64 2])∧Below w0.heap.size w0 w':=by
 obtain ⟨t,hs⟩:=hr.src;have HR:=Lib.hid hr;have x0:=hr.c0;have hB:=blk_no w K.g a t K.S hs hr.off hl;clear hr hs hl
 go_enter Tryz.func31,Tryz.ntmps31
 go_wp2_with fail
 refine hB.mono ?_
 rintro e w1 ⟨E,a',t',hE,rfl,h4,h5⟩;have F:=Lib.hid (HR.out.moved h5 ⟨t',h4⟩);have hE0:(E != 0)=true:=by rcases hE with rfl | rfl<;>rfl
 clear h4 h5 hB x0 hE
 go_wp2
 go_ret2
 exact ⟨rfl,F.out.bel⟩
theorem next_end (hr:Rd w0 w K a s mb v xs q n c) (X:List UInt8) (hX:(K.S.bs.drop a).take 512=X) (hl:a+512≤K.S.n) (hz:zeroB X=true) :
 Calls Tryz.prog 31 #[.pointer (some ⟨K.r,0,none⟩)] w fun e w' => e=.returned (.tuple #[.bool false,.int .i64 (endE (K.S.bs.drop (a+512)) s)]) ∧ ∃ a',Rd w0 w' K a' s mb v xs q n c:=by
 obtain ⟨t,hs⟩:=hr.src;have hXl:X.length=512:=by rw [← hX,List.length_take,List.length_drop,hs.len];omega
 have HR:=Lib.hid hr;have x0:=hr.c0;have hB:=blk_ok w K.g a t K.S hs hr.off X hX hl;have HXL:=Lib.hid hXl;have HZ:=Lib.hid hz;obtain ⟨EE,hEE⟩:∃ EE,endE (K.S.bs.drop (a+512)) s=EE:=⟨_,rfl⟩;rw [hEE];have HEE:=Lib.hid hEE;clear hr hs hl hX hXl hz hEE
 go_enter Tryz.func31,Tryz.ntmps31
 go_wp2_with fail
 refine hB.mono ?_
 rintro e w1 ⟨p,cc,t',rfl,_,_,h3,h4,h5⟩;have F:=Lib.hid (HR.out.moved h5 ⟨t',h4⟩);have HB1:=Lib.hid h3;clear h3 h4 h5 hB x0
 go_wp2_with fail
 refine (zero512_any p cc X w1 HXL.out HB1.out).mono ?_
 rw [HZ.out];rintro e w2 ⟨rfl,rfl⟩
 go_wp2_with fail
 refine (show Calls _ _ _ _ (EndPost w0 K (a+512) s mb v xs q n c (endE (K.S.bs.drop (a+512)) s)) from end_any F.out).mono ?_
 rw [HEE.out];rintro e w3 ⟨rfl,a',hR⟩;have G:=Lib.hid hR;clear hR
 go_wp2
 go_ret2
 exact ⟨rfl,a',G.out⟩
theorem next_nohead (hr:Rd w0 w K a s mb v xs q n c) (X:List UInt8) (hX:(K.S.bs.drop a).take 512=X) (hl:a+512≤K.S.n) (hz:zeroB X=false) (he:(headR X).2≠0) :
 Calls Tryz.prog 31 #[.pointer (some ⟨K.r,0,none⟩)] w fun e w' => e=.returned (.tuple #[.bool false,.int .i64 (headR X).2])∧Below w0.heap.size w0 w':=by
 obtain ⟨t,hs⟩:=hr.src;have hXl:X.length=512:=by rw [← hX,List.length_take,List.length_drop,hs.len];omega
 have HR:=Lib.hid hr;have x0:=hr.c0;have hB:=blk_ok w K.g a t K.S hs hr.off X hX hl;have HXL:=Lib.hid hXl;have HZ:=Lib.hid hz;obtain ⟨⟨h,er⟩,hh⟩:∃ x,headR X=x:=⟨_,rfl⟩;rw [hh] at he ⊢;simp only at he ⊢;have hE0:(er != 0)=true:=by simpa using he
 have HH:=Lib.hid hh;clear hr hs hl hX hXl hz he hh
 go_enter Tryz.func31,Tryz.ntmps31
 go_wp2_with fail
 refine hB.mono ?_
 rintro e w1 ⟨p,cc,t',rfl,hc1,hc2,h3,h4,h5⟩;have F:=Lib.hid (HR.out.moved h5 ⟨t',h4⟩);have HB1:=Lib.hid h3;have HC1:=Lib.hid (And.intro hc1 hc2);clear h3 h4 h5 hB x0 hc1 hc2
 go_wp2_with fail
 refine (zero512_any p cc X w1 HXL.out HB1.out).mono ?_
 rw [HZ.out];rintro e w2 ⟨rfl,rfl⟩
 go_wp2_with fail
 refine (parseH_any p 512 cc X w1 HXL.out HC1.out.1 HC1.out.2 HB1.out).mono ?_
 rw [HH.out];unfold headA headC;simp only;rintro e w3 ⟨rfl,hk3⟩;have G:=Lib.hid ((F.out.idle hk3).bel.alloc (F.out.idle hk3).bel.size (.cells #[.string (str h.name),.string (str h.link),.int .u8 (h.kind.toNat:Int),.int .i64 h.mode,.int .i64 h.uid,.int .i64 h.gid,.int .i64 h.time,.int .i64 h.size,.bool h.gnu] 57));clear hk3
 go_wp2
 go_ret2
 exact ⟨rfl,G.out⟩
end
end Go.Proofs.YtdjedimjhogdoaaGreatDoor.Mem
end
section
namespace Go.Proofs.YtdjedimjhogdoaaGreatDoor.Mem
open Go.ChangeShapes Go.WideShapes Go.ChangeAt Go.RowKit Base Byt Txt Bk Mk Block Hp Head Attr Rec Path Go.Lib Go.Shelf
set_option linter.unusedVariables false
set_option maxRecDepth 100000
section
variable {w0 w w':World} {K:RK} {a:Nat} {s:RS} {mb:Option Nat} {v:Value} {xs:List MP} {q:Option Addr} {n c:Nat}
set_option maxHeartbeats 2000000 in
theorem next_ext120 (hr:Rd w0 w K a s mb v xs q n c) (X:List UInt8) (hX:(K.S.bs.drop a).take 512=X) (hl:a+512≤K.S.n) (hz:zeroB X=false) (h:HeadV) (hh:headR X=(h,0)) (hkd:h.kind=120) (hN:Need w0) :
 Calls Tryz.prog 31 #[.pointer (some ⟨K.r,0,none⟩)] w fun e w' => ∃ E,e=.returned (.tuple #[.bool true,.int .i64 E])∧StepPost w0 K a (extD (K.S.bs.drop a) h s) (.returned (.int .i64 E)) w':=by
 obtain ⟨t,hs⟩:=hr.src;have hXl:X.length=512:=by rw [← hX,List.length_take,List.length_drop,hs.len];omega
 have HR:=Lib.hid hr;have x0:=hr.c0;have hB:=blk_ok w K.g a t K.S hs hr.off X hX hl;have HXL:=Lib.hid hXl;have HZ:=Lib.hid hz;have HH:=Lib.hid hh;have hbd:=headR_bd X;rw [hh] at hbd;obtain ⟨b0,b1,b2⟩:=hbd;have HBD:=Lib.hid (And.intro b0 (And.intro b1 b2));have HND:=Lib.hid hN;obtain ⟨kn,hkn⟩:∃ kn:Int,(h.kind.toNat:Int)=kn:=⟨_,rfl⟩;obtain rfl:kn=120:=by rw [← hkn,hkd];rfl
 have HK:=Lib.hid hkd;clear hkd;clear hr hs hl hX hXl hz hh b0 b1 b2 hN;have HKN:=Lib.hid hkn;clear hkn
 go_enter Tryz.func31,Tryz.ntmps31
 go_wp2_with fail
 refine hB.mono ?_
 rintro e w1 ⟨p,cc,t',rfl,hc1,hc2,h3,h4,h5⟩;have F:=Lib.hid (HR.out.moved h5 ⟨t',h4⟩);have HB1:=Lib.hid h3;have HC1:=Lib.hid (And.intro hc1 hc2);clear h3 h4 h5 hB x0 hc1 hc2
 go_wp2_with fail
 refine (zero512_any p cc X w1 HXL.out HB1.out).mono ?_
 rw [HZ.out];rintro e w2 ⟨rfl,rfl⟩
 go_wp2_with fail
 refine (parseH_any p 512 cc X w1 HXL.out HC1.out.1 HC1.out.2 HB1.out).mono ?_
 rw [HH.out];unfold headA headC;simp only [HKN.out];rintro e w3 ⟨rfl,hk3⟩;have hG:=(F.out.idle hk3).below ((Below.refl _ w3).alloc (Nat.le_refl _) (.cells #[.string (str h.name),.string (str h.link),.int .u8 120,.int .i64 h.mode,.int .i64 h.uid,.int .i64 h.gid,.int .i64 h.time,.int .i64 h.size,.bool h.gnu] 57));have b1:=Blk.new w3 57 #[.string (str h.name),.string (str h.link),.int .u8 120,.int .i64 h.mode,.int .i64 h.uid,.int .i64 h.gid,.int .i64 h.time,.int .i64 h.size,.bool h.gnu];have d0:=b1.cell 0;have d1:=b1.cell 1;have d2:=b1.cell 2;have d3:=b1.cell 3;have d4:=b1.cell 4
 have d5:=b1.cell 5;have d6:=b1.cell 6;have d7:=b1.cell 7;have d8:=b1.cell 8;simp only [List.getElem?_toArray,List.getElem?_cons_zero,List.getElem?_cons_succ] at d0 d1 d2 d3 d4 d5 d6 d7 d8;have G:=Lib.hid hG;clear hk3 b1 hG
 go_wp2_with fail
 refine (show Calls _ _ #[.pointer (some ⟨K.r,0,none⟩),.agg #[.string (str h.name),.string (str h.link),.int .u8 120,.int .i64 h.mode,.int .i64 h.uid,.int .i64 h.gid,.int .i64 h.time,.int .i64 h.size,.bool h.gnu]] _ (StepPost w0 K a (extD (K.S.bs.drop a) h s)) from by
  have:=ext_any G.out h HBD.out.1 (by rw [HK.out];rfl) HND.out
  unfold headC at this;rw [HKN.out] at this
  exact this).mono ?_
 intro e w4 hp
 obtain ⟨E,rfl⟩:∃ E,e=.returned (.int .i64 E):=by
  revert hp
  cases extD (K.S.bs.drop a) h s with
  | fault er => exact fun hp => ⟨er,hp.1⟩
  | done => exact fun hp => hp.elim
  | next k s' => exact fun hp => ⟨0,hp.1⟩
 have HP:=Lib.hid hp;clear hp
 go_wp2
 go_ret2
 exact ⟨E,rfl,HP.out⟩
set_option maxHeartbeats 2000000 in
theorem next_ext103 (hr:Rd w0 w K a s mb v xs q n c) (X:List UInt8) (hX:(K.S.bs.drop a).take 512=X) (hl:a+512≤K.S.n) (hz:zeroB X=false) (h:HeadV) (hh:headR X=(h,0)) (hkd:h.kind=103) (hN:Need w0) :
 Calls Tryz.prog 31 #[.pointer (some ⟨K.r,0,none⟩)] w fun e w' => ∃ E,e=.returned (.tuple #[.bool true,.int .i64 E])∧StepPost w0 K a (extD (K.S.bs.drop a) h s) (.returned (.int .i64 E)) w':=by
 obtain ⟨t,hs⟩:=hr.src;have hXl:X.length=512:=by rw [← hX,List.length_take,List.length_drop,hs.len];omega
 have HR:=Lib.hid hr;have x0:=hr.c0;have hB:=blk_ok w K.g a t K.S hs hr.off X hX hl;have HXL:=Lib.hid hXl;have HZ:=Lib.hid hz;have HH:=Lib.hid hh;have hbd:=headR_bd X;rw [hh] at hbd;obtain ⟨b0,b1,b2⟩:=hbd;have HBD:=Lib.hid (And.intro b0 (And.intro b1 b2));have HND:=Lib.hid hN;obtain ⟨kn,hkn⟩:∃ kn:Int,(h.kind.toNat:Int)=kn:=⟨_,rfl⟩;obtain rfl:kn=103:=by rw [← hkn,hkd];rfl
 have HK:=Lib.hid hkd;clear hkd;clear hr hs hl hX hXl hz hh b0 b1 b2 hN;have HKN:=Lib.hid hkn;clear hkn
 go_enter Tryz.func31,Tryz.ntmps31
 go_wp2_with fail
 refine hB.mono ?_
 rintro e w1 ⟨p,cc,t',rfl,hc1,hc2,h3,h4,h5⟩;have F:=Lib.hid (HR.out.moved h5 ⟨t',h4⟩);have HB1:=Lib.hid h3;have HC1:=Lib.hid (And.intro hc1 hc2);clear h3 h4 h5 hB x0 hc1 hc2
 go_wp2_with fail
 refine (zero512_any p cc X w1 HXL.out HB1.out).mono ?_
 rw [HZ.out];rintro e w2 ⟨rfl,rfl⟩
 go_wp2_with fail
 refine (parseH_any p 512 cc X w1 HXL.out HC1.out.1 HC1.out.2 HB1.out).mono ?_
 rw [HH.out];unfold headA headC;simp only [HKN.out];rintro e w3 ⟨rfl,hk3⟩;have hG:=(F.out.idle hk3).below ((Below.refl _ w3).alloc (Nat.le_refl _) (.cells #[.string (str h.name),.string (str h.link),.int .u8 103,.int .i64 h.mode,.int .i64 h.uid,.int .i64 h.gid,.int .i64 h.time,.int .i64 h.size,.bool h.gnu] 57));have b1:=Blk.new w3 57 #[.string (str h.name),.string (str h.link),.int .u8 103,.int .i64 h.mode,.int .i64 h.uid,.int .i64 h.gid,.int .i64 h.time,.int .i64 h.size,.bool h.gnu];have d0:=b1.cell 0;have d1:=b1.cell 1;have d2:=b1.cell 2;have d3:=b1.cell 3;have d4:=b1.cell 4
 have d5:=b1.cell 5;have d6:=b1.cell 6;have d7:=b1.cell 7;have d8:=b1.cell 8;simp only [List.getElem?_toArray,List.getElem?_cons_zero,List.getElem?_cons_succ] at d0 d1 d2 d3 d4 d5 d6 d7 d8;have G:=Lib.hid hG;clear hk3 b1 hG
 go_wp2_with fail
 refine (show Calls _ _ #[.pointer (some ⟨K.r,0,none⟩),.agg #[.string (str h.name),.string (str h.link),.int .u8 103,.int .i64 h.mode,.int .i64 h.uid,.int .i64 h.gid,.int .i64 h.time,.int .i64 h.size,.bool h.gnu]] _ (StepPost w0 K a (extD (K.S.bs.drop a) h s)) from by
  have:=ext_any G.out h HBD.out.1 (by rw [HK.out];rfl) HND.out
  unfold headC at this;rw [HKN.out] at this
  exact this).mono ?_
 intro e w4 hp
 obtain ⟨E,rfl⟩:∃ E,e=.returned (.int .i64 E):=by
  revert hp
  cases extD (K.S.bs.drop a) h s with
  | fault er => exact fun hp => ⟨er,hp.1⟩
  | done => exact fun hp => hp.elim
  | next k s' => exact fun hp => ⟨0,hp.1⟩
 have HP:=Lib.hid hp;clear hp
 go_wp2
 go_ret2
 exact ⟨E,rfl,HP.out⟩
set_option maxHeartbeats 2000000 in
theorem next_ext76 (hr:Rd w0 w K a s mb v xs q n c) (X:List UInt8) (hX:(K.S.bs.drop a).take 512=X) (hl:a+512≤K.S.n) (hz:zeroB X=false) (h:HeadV) (hh:headR X=(h,0)) (hkd:h.kind=76) (hN:Need w0) :
 Calls Tryz.prog 31 #[.pointer (some ⟨K.r,0,none⟩)] w fun e w' => ∃ E,e=.returned (.tuple #[.bool true,.int .i64 E])∧StepPost w0 K a (extD (K.S.bs.drop a) h s) (.returned (.int .i64 E)) w':=by
 obtain ⟨t,hs⟩:=hr.src;have hXl:X.length=512:=by rw [← hX,List.length_take,List.length_drop,hs.len];omega
 have HR:=Lib.hid hr;have x0:=hr.c0;have hB:=blk_ok w K.g a t K.S hs hr.off X hX hl;have HXL:=Lib.hid hXl;have HZ:=Lib.hid hz;have HH:=Lib.hid hh;have hbd:=headR_bd X;rw [hh] at hbd;obtain ⟨b0,b1,b2⟩:=hbd;have HBD:=Lib.hid (And.intro b0 (And.intro b1 b2));have HND:=Lib.hid hN;obtain ⟨kn,hkn⟩:∃ kn:Int,(h.kind.toNat:Int)=kn:=⟨_,rfl⟩;obtain rfl:kn=76:=by rw [← hkn,hkd];rfl
 have HK:=Lib.hid hkd;clear hkd;clear hr hs hl hX hXl hz hh b0 b1 b2 hN;have HKN:=Lib.hid hkn;clear hkn
 go_enter Tryz.func31,Tryz.ntmps31
 go_wp2_with fail
 refine hB.mono ?_
 rintro e w1 ⟨p,cc,t',rfl,hc1,hc2,h3,h4,h5⟩;have F:=Lib.hid (HR.out.moved h5 ⟨t',h4⟩);have HB1:=Lib.hid h3;have HC1:=Lib.hid (And.intro hc1 hc2);clear h3 h4 h5 hB x0 hc1 hc2
 go_wp2_with fail
 refine (zero512_any p cc X w1 HXL.out HB1.out).mono ?_
 rw [HZ.out];rintro e w2 ⟨rfl,rfl⟩
 go_wp2_with fail
 refine (parseH_any p 512 cc X w1 HXL.out HC1.out.1 HC1.out.2 HB1.out).mono ?_
 rw [HH.out];unfold headA headC;simp only [HKN.out];rintro e w3 ⟨rfl,hk3⟩;have hG:=(F.out.idle hk3).below ((Below.refl _ w3).alloc (Nat.le_refl _) (.cells #[.string (str h.name),.string (str h.link),.int .u8 76,.int .i64 h.mode,.int .i64 h.uid,.int .i64 h.gid,.int .i64 h.time,.int .i64 h.size,.bool h.gnu] 57));have b1:=Blk.new w3 57 #[.string (str h.name),.string (str h.link),.int .u8 76,.int .i64 h.mode,.int .i64 h.uid,.int .i64 h.gid,.int .i64 h.time,.int .i64 h.size,.bool h.gnu];have d0:=b1.cell 0;have d1:=b1.cell 1;have d2:=b1.cell 2;have d3:=b1.cell 3;have d4:=b1.cell 4
 have d5:=b1.cell 5;have d6:=b1.cell 6;have d7:=b1.cell 7;have d8:=b1.cell 8;simp only [List.getElem?_toArray,List.getElem?_cons_zero,List.getElem?_cons_succ] at d0 d1 d2 d3 d4 d5 d6 d7 d8;have G:=Lib.hid hG;clear hk3 b1 hG
 go_wp2_with fail
 refine (show Calls _ _ #[.pointer (some ⟨K.r,0,none⟩),.agg #[.string (str h.name),.string (str h.link),.int .u8 76,.int .i64 h.mode,.int .i64 h.uid,.int .i64 h.gid,.int .i64 h.time,.int .i64 h.size,.bool h.gnu]] _ (StepPost w0 K a (extD (K.S.bs.drop a) h s)) from by
  have:=ext_any G.out h HBD.out.1 (by rw [HK.out];rfl) HND.out
  unfold headC at this;rw [HKN.out] at this
  exact this).mono ?_
 intro e w4 hp
 obtain ⟨E,rfl⟩:∃ E,e=.returned (.int .i64 E):=by
  revert hp
  cases extD (K.S.bs.drop a) h s with
  | fault er => exact fun hp => ⟨er,hp.1⟩
  | done => exact fun hp => hp.elim
  | next k s' => exact fun hp => ⟨0,hp.1⟩
 have HP:=Lib.hid hp;clear hp
 go_wp2
 go_ret2
 exact ⟨E,rfl,HP.out⟩
set_option maxHeartbeats 2000000 in
theorem next_ext75 (hr:Rd w0 w K a s mb v xs q n c) (X:List UInt8) (hX:(K.S.bs.drop a).take 512=X) (hl:a+512≤K.S.n) (hz:zeroB X=false) (h:HeadV) (hh:headR X=(h,0)) (hkd:h.kind=75) (hN:Need w0) :
 Calls Tryz.prog 31 #[.pointer (some ⟨K.r,0,none⟩)] w fun e w' => ∃ E,e=.returned (.tuple #[.bool true,.int .i64 E])∧StepPost w0 K a (extD (K.S.bs.drop a) h s) (.returned (.int .i64 E)) w':=by
 obtain ⟨t,hs⟩:=hr.src;have hXl:X.length=512:=by rw [← hX,List.length_take,List.length_drop,hs.len];omega
 have HR:=Lib.hid hr;have x0:=hr.c0;have hB:=blk_ok w K.g a t K.S hs hr.off X hX hl;have HXL:=Lib.hid hXl;have HZ:=Lib.hid hz;have HH:=Lib.hid hh;have hbd:=headR_bd X;rw [hh] at hbd;obtain ⟨b0,b1,b2⟩:=hbd;have HBD:=Lib.hid (And.intro b0 (And.intro b1 b2));have HND:=Lib.hid hN;obtain ⟨kn,hkn⟩:∃ kn:Int,(h.kind.toNat:Int)=kn:=⟨_,rfl⟩;obtain rfl:kn=75:=by rw [← hkn,hkd];rfl
 have HK:=Lib.hid hkd;clear hkd;clear hr hs hl hX hXl hz hh b0 b1 b2 hN;have HKN:=Lib.hid hkn;clear hkn
 go_enter Tryz.func31,Tryz.ntmps31
 go_wp2_with fail
 refine hB.mono ?_
 rintro e w1 ⟨p,cc,t',rfl,hc1,hc2,h3,h4,h5⟩;have F:=Lib.hid (HR.out.moved h5 ⟨t',h4⟩);have HB1:=Lib.hid h3;have HC1:=Lib.hid (And.intro hc1 hc2);clear h3 h4 h5 hB x0 hc1 hc2
 go_wp2_with fail
 refine (zero512_any p cc X w1 HXL.out HB1.out).mono ?_
 rw [HZ.out];rintro e w2 ⟨rfl,rfl⟩
 go_wp2_with fail
 refine (parseH_any p 512 cc X w1 HXL.out HC1.out.1 HC1.out.2 HB1.out).mono ?_
 rw [HH.out];unfold headA headC;simp only [HKN.out];rintro e w3 ⟨rfl,hk3⟩;have hG:=(F.out.idle hk3).below ((Below.refl _ w3).alloc (Nat.le_refl _) (.cells #[.string (str h.name),.string (str h.link),.int .u8 75,.int .i64 h.mode,.int .i64 h.uid,.int .i64 h.gid,.int .i64 h.time,.int .i64 h.size,.bool h.gnu] 57));have b1:=Blk.new w3 57 #[.string (str h.name),.string (str h.link),.int .u8 75,.int .i64 h.mode,.int .i64 h.uid,.int .i64 h.gid,.int .i64 h.time,.int .i64 h.size,.bool h.gnu];have d0:=b1.cell 0;have d1:=b1.cell 1;have d2:=b1.cell 2;have d3:=b1.cell 3;have d4:=b1.cell 4
 have d5:=b1.cell 5;have d6:=b1.cell 6;have d7:=b1.cell 7;have d8:=b1.cell 8;simp only [List.getElem?_toArray,List.getElem?_cons_zero,List.getElem?_cons_succ] at d0 d1 d2 d3 d4 d5 d6 d7 d8;have G:=Lib.hid hG;clear hk3 b1 hG
 go_wp2_with fail
 refine (show Calls _ _ #[.pointer (some ⟨K.r,0,none⟩),.agg #[.string (str h.name),.string (str h.link),.int .u8 75,.int .i64 h.mode,.int .i64 h.uid,.int .i64 h.gid,.int .i64 h.time,.int .i64 h.size,.bool h.gnu]] _ (StepPost w0 K a (extD (K.S.bs.drop a) h s)) from by
  have:=ext_any G.out h HBD.out.1 (by rw [HK.out];rfl) HND.out
  unfold headC at this;rw [HKN.out] at this
  exact this).mono ?_
 intro e w4 hp
 obtain ⟨E,rfl⟩:∃ E,e=.returned (.int .i64 E):=by
  revert hp
  cases extD (K.S.bs.drop a) h s with
  | fault er => exact fun hp => ⟨er,hp.1⟩
  | done => exact fun hp => hp.elim
  | next k s' => exact fun hp => ⟨0,hp.1⟩
 have HP:=Lib.hid hp;clear hp
 go_wp2
 go_ret2
 exact ⟨E,rfl,HP.out⟩
set_option maxHeartbeats 2000000 in
theorem next_add (hr:Rd w0 w K a s mb v xs q n c) (X:List UInt8) (hX:(K.S.bs.drop a).take 512=X) (hl:a+512≤K.S.n) (hz:zeroB X=false) (h:HeadV) (hh:headR X=(h,0)) (hkd:isExt h.kind=false) (hN:Need w0) :
 Calls Tryz.prog 31 #[.pointer (some ⟨K.r,0,none⟩)] w fun e w' => ∃ E,e=.returned (.tuple #[.bool true,.int .i64 E])∧StepPost w0 K a (memD (K.S.bs.drop a) h s) (.returned (.int .i64 E)) w':=by
 obtain ⟨t,hs⟩:=hr.src;have hXl:X.length=512:=by rw [← hX,List.length_take,List.length_drop,hs.len];omega
 have HR:=Lib.hid hr;have x0:=hr.c0;have hB:=blk_ok w K.g a t K.S hs hr.off X hX hl;have HXL:=Lib.hid hXl;have HZ:=Lib.hid hz;have HH:=Lib.hid hh;have hbd:=headR_bd X;rw [hh] at hbd;obtain ⟨b0,b1,b2⟩:=hbd;have HBD:=Lib.hid (And.intro b0 (And.intro b1 b2));have HND:=Lib.hid hN;obtain ⟨kn,hkn⟩:∃ kn:Int,(h.kind.toNat:Int)=kn:=⟨_,rfl⟩
 have e4:(kn == 120)=false∧(kn == 103)=false∧(kn == 76)=false∧(kn == 75)=false:=by
  have hu:=fun m hm => u8_lit h.kind m hm
  unfold isExt at hkd;simp only [Bool.or_eq_false_iff,beq_eq_false_iff_ne] at hkd;obtain ⟨⟨⟨k1,k2⟩,k3⟩,k4⟩:=hkd;simp only [beq_eq_false_iff_ne];exact ⟨fun e => k1 ((hu 120 (by decide)).1 (hkn.trans e)),fun e => k2 ((hu 103 (by decide)).1 (hkn.trans e)),fun e => k3 ((hu 76 (by decide)).1 (hkn.trans e)),fun e => k4 ((hu 75 (by decide)).1 (hkn.trans e))⟩
 obtain ⟨e1,e2,e3,e4⟩:=e4;clear hkd;clear hr hs hl hX hXl hz hh b0 b1 b2 hN;have HKN:=Lib.hid hkn;clear hkn
 go_enter Tryz.func31,Tryz.ntmps31
 go_wp2_with fail
 refine hB.mono ?_
 rintro e w1 ⟨p,cc,t',rfl,hc1,hc2,h3,h4,h5⟩;have F:=Lib.hid (HR.out.moved h5 ⟨t',h4⟩);have HB1:=Lib.hid h3;have HC1:=Lib.hid (And.intro hc1 hc2);clear h3 h4 h5 hB x0 hc1 hc2
 go_wp2_with fail
 refine (zero512_any p cc X w1 HXL.out HB1.out).mono ?_
 rw [HZ.out];rintro e w2 ⟨rfl,rfl⟩
 go_wp2_with fail
 refine (parseH_any p 512 cc X w1 HXL.out HC1.out.1 HC1.out.2 HB1.out).mono ?_
 rw [HH.out];unfold headA headC;simp only [HKN.out];rintro e w3 ⟨rfl,hk3⟩;have hG:=(F.out.idle hk3).below ((Below.refl _ w3).alloc (Nat.le_refl _) (.cells #[.string (str h.name),.string (str h.link),.int .u8 kn,.int .i64 h.mode,.int .i64 h.uid,.int .i64 h.gid,.int .i64 h.time,.int .i64 h.size,.bool h.gnu] 57));have b1:=Blk.new w3 57 #[.string (str h.name),.string (str h.link),.int .u8 kn,.int .i64 h.mode,.int .i64 h.uid,.int .i64 h.gid,.int .i64 h.time,.int .i64 h.size,.bool h.gnu];have d0:=b1.cell 0;have d1:=b1.cell 1;have d2:=b1.cell 2;have d3:=b1.cell 3;have d4:=b1.cell 4
 have d5:=b1.cell 5;have d6:=b1.cell 6;have d7:=b1.cell 7;have d8:=b1.cell 8;simp only [List.getElem?_toArray,List.getElem?_cons_zero,List.getElem?_cons_succ] at d0 d1 d2 d3 d4 d5 d6 d7 d8;have G:=Lib.hid hG;clear hk3 b1 hG
 go_wp2_with fail
 refine (show Calls _ _ #[.pointer (some ⟨K.r,0,none⟩),.agg #[.string (str h.name),.string (str h.link),.int .u8 kn,.int .i64 h.mode,.int .i64 h.uid,.int .i64 h.gid,.int .i64 h.time,.int .i64 h.size,.bool h.gnu]] _ (StepPost w0 K a (memD (K.S.bs.drop a) h s)) from by
  have:=add_any G.out h HND.out HBD.out.1 (by have:=HBD.out.2.1;omega) (by have:=HBD.out.2.2;omega)
  unfold headC at this;rw [HKN.out] at this
  exact this).mono ?_
 intro e w4 hp
 obtain ⟨E,rfl⟩:∃ E,e=.returned (.int .i64 E):=by
  revert hp
  cases memD (K.S.bs.drop a) h s with
  | fault er => exact fun hp => ⟨er,hp.1⟩
  | done => exact fun hp => hp.elim
  | next k s' => exact fun hp => ⟨0,hp.1⟩
 have HP:=Lib.hid hp;clear hp
 go_wp2
 go_ret2
 exact ⟨E,rfl,HP.out⟩
theorem next_of {st:Step} (hd:st ≠ .done) (h:Calls Tryz.prog 31 #[.pointer (some ⟨K.r,0,none⟩)] w fun e w' => ∃ E,e=.returned (.tuple #[.bool true,.int .i64 E])∧StepPost w0 K a st (.returned (.int .i64 E)) w') :
 Calls Tryz.prog 31 #[.pointer (some ⟨K.r,0,none⟩)] w (NextPost w0 K a s mb v xs q n c st):=by
 refine h.mono ?_
 rintro e w' ⟨E,rfl,hp⟩
 cases st with
 | fault er =>
   obtain ⟨h1,h2⟩:=hp;simp only [Ending.returned.injEq,Value.int.injEq,true_and] at h1;subst h1;exact ⟨⟨true,rfl⟩,h2⟩
 | done => exact absurd rfl hd
 | next k s' =>
   obtain ⟨h1,h2⟩:=hp;simp only [Ending.returned.injEq,Value.int.injEq,true_and] at h1;subst h1;exact ⟨rfl,h2⟩
theorem extD_done (l:List UInt8) (h:HeadV) (s:RS):extD l h s ≠ .done:=by
 unfold extD
 split
 ·exact fun h => by cases h
 ·split
  ·exact fun h => by cases h
  ·split
   ·exact fun h => by cases h
   ·split
    ·exact fun h => by cases h
    ·split
     ·exact fun h => by cases h
     ·split
      ·exact fun h => by cases h
      ·split<;>exact fun h => by cases h
theorem memD_done (l:List UInt8) (h:HeadV) (s:RS):memD l h s ≠ .done:=by
 unfold memD
 split
 ·exact fun h => by cases h
 ·split
  ·exact fun h => by cases h
  ·split
   ·exact fun h => by cases h
   ·split<;>exact fun h => by cases h
theorem next_any (hr:Rd w0 w K a s mb v xs q n c) (hN:Need w0) :
 Calls Tryz.prog 31 #[.pointer (some ⟨K.r,0,none⟩)] w (NextPost w0 K a s mb v xs q n c (stepD (K.S.bs.drop a) s)):=by
 obtain ⟨t,hs⟩:=hr.src;have hlen:=hs.len;have hle:=hs.le;have hLL:(K.S.bs.drop a).length=K.S.n - a:=by rw [List.length_drop,hlen]
 unfold stepD
 by_cases h1:(K.S.bs.drop a).length < 512
 ·rw [if_pos h1]
  exact (next_short hr (by omega)).mono fun e w' h => ⟨⟨false,h.1⟩,h.2⟩
 ·rw [if_neg h1]
  have hl:a+512≤K.S.n:=by omega
  obtain ⟨X,hX⟩:∃ X,(K.S.bs.drop a).take 512=X:=⟨_,rfl⟩;rw [hX]
  by_cases h2:zeroB X=true
  ·rw [if_pos h2]
   refine (next_end hr X hX hl h2).mono ?_
   rintro e w' ⟨rfl,a',hR⟩;unfold endE;rw [List.drop_drop,hLL,Nat.sub_sub,show (K.S.bs.drop (a+512)).length=K.S.n - (a+512) by rw [List.length_drop,hlen]]
   by_cases h3:K.S.n - (a+512) < 512
   ·rw [if_pos h3,if_pos h3]
    exact ⟨⟨false,rfl⟩,hR.bel⟩
   ·rw [if_neg h3,if_neg h3]
    by_cases h4:zeroB (K.S.bs.drop (a+512))=false
    ·rw [if_pos h4,if_pos h4]
     exact ⟨⟨false,rfl⟩,hR.bel⟩
    ·rw [if_neg h4,if_neg h4]
     by_cases h5:s.hasX=true ∨ s.name.isSome=true ∨ s.link.isSome=true
     ·rw [if_pos h5,if_pos h5]
      exact ⟨⟨false,rfl⟩,hR.bel⟩
     ·rw [if_neg h5,if_neg h5]
      exact ⟨rfl,a',hR⟩
  ·rw [if_neg h2]
   have h2':zeroB X=false:=by simpa using h2
   by_cases h3:(headR X).2≠0
   ·rw [if_pos h3]
    exact (next_nohead hr X hX hl h2' h3).mono fun e w' h => ⟨⟨false,h.1⟩,h.2⟩
   ·rw [if_neg h3]
    have h4:headR X=((headR X).1,0):=Prod.ext rfl (Classical.byContradiction h3)
    by_cases h5:isExt (headR X).1.kind=true
    ·rw [if_pos h5]
     refine next_of (extD_done _ _ _) ?_
     have h6:=h5;unfold isExt at h6;simp only [Bool.or_eq_true,beq_iff_eq] at h6;rcases h6 with ((h6 | h6) | h6) | h6
     ·exact next_ext120 hr X hX hl h2' _ h4 h6 hN
     ·exact next_ext103 hr X hX hl h2' _ h4 h6 hN
     ·exact next_ext76 hr X hX hl h2' _ h4 h6 hN
     ·exact next_ext75 hr X hX hl h2' _ h4 h6 hN
    ·rw [if_neg h5]
     exact next_of (memD_done _ _ _) (next_add hr X hX hl h2' _ h4 (by simpa using h5) hN)
end
end Go.Proofs.YtdjedimjhogdoaaGreatDoor.Mem
end
section
namespace Go.Proofs.YtdjedimjhogdoaaGreatDoor.Mem
open Go.ChangeShapes Go.WideShapes Go.ChangeAt Go.RowKit Base Byt Txt Bk Mk Block Hp Head Attr Rec Path Go.Lib Go.Shelf
set_option linter.unusedVariables false
set_option maxRecDepth 100000
theorem ret_fault {fn:Func} (hf:fn.results=#[.tmp 4,.cell 5 28]) (tmps:Array Value) (w:World) (g:Nat) (v:Value) (ht:tmps.getD 5 undef=.pointer (some ⟨g,0,none⟩)) (hv:tmps.getD 4 undef=v)
 (a b:Int) (hb:Blk w g 28 #[.int .i64 a,.int .i64 b]):(results fn tmps).run Tryz.prog w=.ok (.tuple #[v,.agg #[.int .i64 a,.int .i64 b]]) w:=by
 have c0:=hb.cell 0;have c1:=hb.cell 1;simp only [List.getElem?_toArray,List.getElem?_cons_zero,List.getElem?_cons_succ] at c0 c1;have hl:(loadVar 28 ⟨g,0,none⟩).run Tryz.prog w=.ok (.agg #[.int .i64 a,.int .i64 b]) w:=by go_simp
 have ht':tmps[5]?.getD undef=.pointer (some ⟨g,0,none⟩):=by simpa using ht
 have hv':tmps[4]?.getD undef=v:=by simpa using hv
 simp only [results,hf];simp [Result.andThen,ht',hv',asAddr,hl]
theorem bat_off_blk {w:World} {p:Option Addr} {n:Nat} {bs:List UInt8} {b:Nat} {t:TypeId} {cs:Array Value} (h:BAt w p n bs) (hb:Blk w b t cs) (hs:∀ (i:Nat) (x:Int),cs[i]? ≠ some (.int .u8 x)) (h0:0 < n) {y:Addr} (hy:p=some y):y.block≠b:=by
 obtain ⟨b',o,rfl,_,hc⟩:=h.cell h0
 cases hy
 rintro rfl;have c0:=hc 0 h0;rw [hb.cell] at c0;exact hs _ _ c0
def ReadD (w:World) (bs:List UInt8) (e:Ending) (w':World):Prop:=
 ∃ (p:Option Addr) (c:Nat) (xs:List MP),e=.returned (.tuple #[.slice p xs.length c,.agg #[.int .i64 (membersD bs).2.1,.int .i64 ((membersD bs).2.2:Nat)]])∧xs.length≤c∧c≤maxLen∧xs.map MP.m=(membersD bs).1∧MemsAt w' p xs.length xs∧Below w.heap.size w w'
set_option maxHeartbeats 4000000 in
theorem memRead_any (w:World) (p:Option Addr) (n c:Nat) (bs:List UInt8) (q:Option Addr) (m d:Nat) (zs:List Int) (hb:BAt w p n bs) (hl:bs.length=n) (hn:n≤140737488351232) (hq:IAt w q m zs) (hz:zs.length=m) (hm:m * 8≤140737488351232) (hN:Need w) :
 Calls Tryz.prog 12 #[.slice p n c,.slice q m d] w (ReadD w bs):=by
 obtain ⟨W1,hW1⟩:∃ W1,w.alloc (.cells #[.int .i64 0,.int .i64 0] 28)=W1:=⟨_,rfl⟩;have hB1:Below w.heap.size w W1:=by rw [← hW1];exact (Below.refl _ w).alloc (Nat.le_refl _) _
 have hX1:Blk W1 w.heap.size 28 #[.int .i64 0,.int .i64 0]:=by rw [← hW1];exact Blk.new w _ _
 have hNR:=newReader_any W1 p n c bs q m d zs (hb.below hB1) hl hn (hq.kept (Kept.of_below hB1 noneB) (fun _ _ _ => id)) hz hm
 have HB1:=Lib.hid hB1;have HX1:=Lib.hid hX1;have HND:=Lib.hid (hN.below hB1);have HLN:=Lib.hid hl;clear hb hl hn hq hz hm hN hB1 hX1
 go_enter Tryz.func12,Tryz.ntmps12
 go_upto_region 1 with fail
 clear hW1
 go_wp2_with fail
 refine hNR.mono ?_
 rintro e w2 ⟨K,rfl,hbs,hR⟩;have HBS:=Lib.hid hbs;have HR:=Lib.hid hR;clear hbs hR hNR
 go_wp2_with fail
 go_loopg [7,8,9] bs.length (fun g s7 s8 s9 wr => Hid (∃ (a:Nat) (s:RS) (mb:Option Nat) (v:Value) (xs:List MP) (q:Option Addr) (n c:Nat),Rd W1 wr K a s mb v xs q n c∧readFrom bs 0 startS=readFrom (bs.drop a) a s∧g=bs.length - a))
 case atStart => exact Lib.hid ⟨0,startS,none,.slice none 0 0,[],none,0,0,HR.out,by rw [List.drop_zero],rfl⟩
 case round =>
  obtain ⟨a,s,mb,v,xs,q,n,c,hR,hrf,rfl⟩:=hrel.out;obtain ⟨t,hs⟩:=hR.src;have hP:=place_any wr K.g a t K.S hs;have hNx:=next_any hR HND.out;rw [HBS.out] at hNx;have x0:=hR.c0;have HRD:=Lib.hid hR;have HRF:=Lib.hid hrf;obtain ⟨st,hst⟩:∃ st,stepD (bs.drop a) s=st:=⟨_,rfl⟩;rw [hst] at hNx;have HST:=Lib.hid hst;have hXr:=HX1.out.below hR.bel HX1.out.lt;clear hR hrf hs hst hrel
  go_wp2_with fail
  refine hP.mono ?_
  rintro e w3 ⟨rfl,rfl⟩
  go_wp2_with fail
  refine hNx.mono ?_
  clear hNx hP hXr;intro e w4 hp
  cases st with
  | fault er =>
    obtain ⟨⟨b,rfl⟩,hb4⟩:=hp;have hne:=step_fault HST.out;have hE0:(er != 0)=true:=by simpa using hne
    have b4:=HX1.out.below hb4 HX1.out.lt;have r0:=b4.cell 0;have r1:=b4.cell 1;have f0:=b4.frozen 0;have f1:=b4.frozen 1;simp only [List.getElem?_toArray,List.getElem?_cons_zero,List.getElem?_cons_succ] at r0 r1;have HX4:=Lib.hid b4;have HB4:=Lib.hid hb4
    have E:Hid (membersD bs=([],er,a)):=Lib.hid (by
     show readFrom bs 0 startS=_
     rw [HRF.out,readFrom_fault HST.out])
    clear hb4 hne b4 x0
    go_wp2
    refine bodyPost_ret (ret_fault rfl _ _ w.heap.size _ rfl rfl er (a:Int) ((HX4.out.set 0 (.int .i64 er) (by decide:0 < 2)).set 1 (.int .i64 (a:Int)) (by decide:1 < 2))) rfl ?_
    refine ⟨none,0,[],?_,by simp,by decide,?_,mems_nil _ _,?_⟩
    ·rw [E.out];rfl
    ·rw [E.out];rfl
    ·exact ((HB1.out.trans (HB4.out.mono HB1.out.size)).setCell (p:=⟨w.heap.size,0,none⟩) (Nat.le_refl _) _).setCell (p:=⟨w.heap.size,1,none⟩) (Nat.le_refl _) _
  | done =>
    obtain ⟨rfl,a',hR4⟩:=hp;have b4:=HX1.out.below hR4.bel HX1.out.lt;have r0:=b4.cell 0;have r1:=b4.cell 1;have f0:=b4.frozen 0;have f1:=b4.frozen 1;simp only [List.getElem?_toArray,List.getElem?_cons_zero,List.getElem?_cons_succ] at r0 r1;have HX4:=Lib.hid b4;have x3:=hR4.c3;have HR4:=Lib.hid hR4
    have E:Hid (membersD bs=(s.out,0,0)):=Lib.hid (by
     show readFrom bs 0 startS=_
     rw [HRF.out,readFrom_done HST.out])
    clear hR4 b4 x0
    go_wp2
    have hb5:Below w.heap.size w ((w4.setCell ⟨w.heap.size,0,none⟩ (.int .i64 0)).setCell ⟨w.heap.size,1,none⟩ (.int .i64 0)):=
     ((HB1.out.trans (HR4.out.bel.mono HB1.out.size)).setCell (p:=⟨w.heap.size,0,none⟩) (Nat.le_refl _) _).setCell (p:=⟨w.heap.size,1,none⟩) (Nat.le_refl _) _
    refine bodyPost_ret (ret_fault rfl _ _ w.heap.size _ rfl rfl 0 0 ((HX4.out.set 0 (.int .i64 0) (by decide:0 < 2)).set 1 (.int .i64 0) (by decide:1 < 2))) rfl ?_
    have hk5:Kept (oneB w.heap.size) w4 ((w4.setCell ⟨w.heap.size,0,none⟩ (.int .i64 0)).setCell ⟨w.heap.size,1,none⟩ (.int .i64 0)):=
     ((Kept.refl (oneB w.heap.size) w4).setCell (a:=⟨w.heap.size,0,none⟩) (.inr rfl) _).setCell (a:=⟨w.heap.size,1,none⟩) (.inr rfl) _
    have hx1:=HX1.out.lt
    obtain ⟨p5,c5,rfl,h51,h52,h53⟩:=mems_own (ownsRow_kept HR4.out.row hk5 (fun k hk e => by
     have h1:=(HR4.out.row.lt k hk).1;have h2:k=w.heap.size:=e
     omega)) (fun x hx => (HR4.out.bodies x hx).kept hk5 (fun h0 y hy e => bat_off_blk (HR4.out.bodies x hx).bat HX4.out (fun i z hz => by rcases i with _ | _ | i<;>simp at hz) h0 hy e))
    refine ⟨p5,c5,xs,?_,h51,h52,?_,h53,hb5⟩
    ·rw [E.out];rfl
    ·rw [E.out];exact HR4.out.out
  | next k s' =>
    obtain ⟨rfl,mb',v',xs',q',n',c',hR4⟩:=hp;have HR4:=Lib.hid hR4;have hstep:=step_next HST.out
    have E:Hid (readFrom bs 0 startS=readFrom (bs.drop (a+k)) (a+k) s'):=Lib.hid (by
     rw [HRF.out,readFrom_next HST.out,List.drop_drop])
    have HSTEP:=Lib.hid hstep;clear hR4 hstep x0
    go_wp2
    go_roundg (bs.length - (a+k))
    case measure => have:=HSTEP.out;rw [List.length_drop] at this;omega
    case rel => exact Lib.hid ⟨a+k,s',mb',v',xs',q',n',c',HR4.out,E.out,rfl⟩
end Go.Proofs.YtdjedimjhogdoaaGreatDoor.Mem
end
section
namespace Go.Proofs.YtdjedimjhogdoaaGreatDoor.Mem
open Go.ChangeShapes Go.WideShapes Go.ChangeAt Go.RowKit Base Byt Txt Bk Hp Block Attr Rec Go.Lib
set_option linter.unusedVariables false
set_option maxRecDepth 100000
set_option linter.unusedSectionVars false
theorem rows_apart {w:World} {B B':Nat} {e e':TypeId} {k k':Nat} {v v':Value} {n n':Nat} {xs xs':List Value} (h:w.ownsRow B e k v n xs) (h':w.ownsRow B' e' k' v' n' xs') (he:e≠e'):∀ b,v.ownBlock=some b → v'.ownBlock≠some b:=by
 intro b hb hb';rcases h.2 with ⟨rfl,_⟩ | ⟨g,cap,cur,rfl,_,hg,_⟩
 ·simp [Value.ownBlock] at hb
 rcases h'.2 with ⟨rfl,_⟩ | ⟨g',cap',cur',rfl,_,hg',_⟩
 ·simp [Value.ownBlock] at hb'
 simp only [Value.ownBlock,Option.some.injEq] at hb hb';subst hb;subst hb';rw [hg] at hg'
 cases hg'
 exact he rfl
theorem recs_lt {w:World} {p:Option Addr} {m:Nat} {rs:RecL} (h:RecsAt w p m rs) (h0:0 < m) {y:Addr} (hy:p=some y):y.block < w.heap.size:=by
 obtain ⟨b,o,he,hb,_⟩:=h.2 h0;rw [hy] at he
 cases he
 exact hb
theorem recs_kept {S:Nat → Prop} {w w':World} {p:Option Addr} {m:Nat} {rs:RecL} (h:RecsAt w p m rs) (hk:Kept S w w') (hn:0 < m → ∀ a,p=some a → ¬ S a.block):RecsAt w' p m rs:=by
 refine ⟨h.1,fun h0 => ?_⟩
 obtain ⟨b,o,rfl,hb,hc⟩:=h.2 h0;have hs:=hk.block b hb (hn h0 _ rfl);refine ⟨b,o,rfl,Nat.lt_of_lt_of_le hb hk.size,fun i hi => ?_⟩
 have e:∀ j,w'.cell? ⟨b,j,none⟩=w.cell? ⟨b,j,none⟩:=fun j => by simp only [World.cell?,hs]
 rw [e,e];exact hc i hi
structure RRd (w0 w:World) (bs:List UInt8) (a:Nat) (s:RS) (vo:Value) (xs:List MP) (vg:Value) (q:Option Addr) (n c:Nat) (nm lk:List UInt8) (hx hl hk:Bool):Prop where
 bel:Below w0.heap.size w0 w
 row:w.ownsRow w0.heap.size 37 8 vo xs.length (flatM xs)
 out:xs.map MP.m=s.out
 bodies:∀ x ∈ xs,BodyAt w x
 glob:w.ownsRow w0.heap.size 53 2 vg s.glob.length (flatR s.glob)
 own:RecsAt w q n s.own
 offX:∀ x ∈ xs,0 < x.m.body.length → ∀ z,x.p=some z → vo.ownBlock≠some z.block∧vg.ownBlock≠some z.block
 offQ:0 < n → ∀ z,q=some z → vo.ownBlock≠some z.block∧vg.ownBlock≠some z.block
 name:s.name=if hl then some nm else none
 link:s.link=if hk then some lk else none
 hasX:s.hasX=hx
 lenG:∀ r ∈ s.glob,r.2.length≤1048576
 lenO:∀ r ∈ s.own,r.2.length≤1048576
 lenN:nm.length≤1048576∧lk.length≤1048576∧n≤1048576
 gsz:s.glob.length≤a
 full:s.out.length≤4096
 le:a≤bs.length
 read:readFrom (bs.drop a) a s=membersD bs
section
variable {w0 w w':World} {bs:List UInt8} {a:Nat} {s:RS} {vo:Value} {xs:List MP} {vg:Value} {q:Option Addr} {n c:Nat} {nm lk:List UInt8} {hx hl hk:Bool}
theorem rrd_start (w:World) (bs:List UInt8):RRd w w bs 0 startS (.slice none 0 0) [] (.slice none 0 0) none 0 0 [] [] false false false where
 bel:=Below.refl _ _
 row:=World.ownsRow_nil _ _ _ _
 out:=rfl
 bodies:=fun x hx => by cases hx
 glob:=World.ownsRow_nil _ _ _ _
 own:=⟨rfl,fun h => absurd h (by omega)⟩
 offX:=fun x hx => by cases hx
 offQ:=fun h => absurd h (by omega)
 name:=rfl
 link:=rfl
 hasX:=rfl
 lenG:=fun r hr => by cases hr
 lenO:=fun r hr => by cases hr
 lenN:=⟨Nat.zero_le _,Nat.zero_le _,Nat.zero_le _⟩
 gsz:=Nat.zero_le _
 full:=Nat.zero_le _
 le:=Nat.zero_le _
 read:=rfl
theorem RRd.below (h:RRd w0 w bs a s vo xs vg q n c nm lk hx hl hk) (hb:Below w.heap.size w w'):RRd w0 w' bs a s vo xs vg q n c nm lk hx hl hk where
 bel:=h.bel.trans (hb.mono h.bel.size)
 row:=row_below h.row hb
 out:=h.out
 bodies:=fun x hx => (h.bodies x hx).below hb
 glob:=row_below h.glob hb
 own:=h.own.below hb
 offX:=h.offX
 offQ:=h.offQ
 name:=h.name
 link:=h.link
 hasX:=h.hasX
 lenG:=h.lenG
 lenO:=h.lenO
 lenN:=h.lenN
 gsz:=h.gsz
 full:=h.full
 le:=h.le
 read:=h.read
theorem RRd.len (h:RRd w0 w bs a s vo xs vg q n c nm lk hx hl hk):xs.length=s.out.length:=by have:=congrArg List.length h.out;simpa using this
theorem RRd.fault (h:RRd w0 w bs a s vo xs vg q n c nm lk hx hl hk) {e:Int} (hs:stepD (bs.drop a) s=.fault e) {wa wz:World} (hb:Below wa.heap.size wa wz) :
 ReadD wa bs (.returned (.tuple #[.slice none 0 0,.agg #[.int .i64 e,.int .i64 (a:Int)]])) wz:=by
 have hm:membersD bs=([],e,a):=by rw [← h.read,readFrom_fault hs]
 refine ⟨none,0,[],?_,Nat.le_refl _,by decide,?_,mems_nil _ _,hb⟩
 ·rw [hm];rfl
 ·rw [hm];rfl
theorem RRd.done (h:RRd w0 w bs a s vo xs vg q n c nm lk hx hl hk) (hs:stepD (bs.drop a) s=.done) {g:Nat} (hg:g < w0.heap.size) (hX:Blk w g 28 #[.int .i64 0,.int .i64 0]) {wa wz:World} (hk:Kept (oneB g) w wz) (hb:Below wa.heap.size wa wz) :
 ReadD wa bs (.returned (.tuple #[vo,.agg #[.int .i64 0,.int .i64 0]])) wz:=by
 have hm:membersD bs=(s.out,0,0):=by rw [← h.read,readFrom_done hs]
 obtain ⟨p,c,rfl,h1,h2,h3⟩:=mems_own (ownsRow_kept h.row hk (fun k hk e => by
  have h1:=(World.ownsRow.lt h.row k hk).1;have h2:k=g:=e
  omega)) (fun x hx => (h.bodies x hx).kept hk (fun h0 y hy e => bat_off_blk (h.bodies x hx).bat hX (fun i z hz => by rcases i with _ | _ | i<;>simp at hz) h0 hy e))
 refine ⟨p,c,xs,?_,h1,h2,?_,h3,hb⟩
 ·rw [hm];rfl
 ·rw [hm];exact h.out
theorem RRd.next_le (h:RRd w0 w bs a s vo xs vg q n c nm lk hx hl hk) {k:Nat} {s':RS} (hs:stepD (bs.drop a) s=.next k s'):a+k≤bs.length∧512≤k∧readFrom (bs.drop (a+k)) (a+k) s'=membersD bs:=by
 obtain ⟨h1,h2⟩:=step_next hs;rw [List.length_drop] at h2;have:=h.le;refine ⟨by omega,h1,?_⟩
 rw [← h.read,readFrom_next hs,List.drop_drop]
theorem RRd.nextL (h:RRd w0 w bs a s vo xs vg q n c nm lk hx hl hk) {k:Nat} {t:List UInt8} (hs:stepD (bs.drop a) s=.next k { s with name:=some t }) (ht:t.length≤1048576) :
 RRd w0 w bs (a+k) { s with name:=some t } vo xs vg q n c t lk hx true hk:=
 { h with name:=rfl,lenN:=⟨ht,h.lenN.2⟩,le:=(h.next_le hs).1,read:=(h.next_le hs).2.2,gsz:=Nat.le_trans h.gsz (Nat.le_add_right _ _) }
theorem RRd.nextK (h:RRd w0 w bs a s vo xs vg q n c nm lk hx hl hk) {k:Nat} {t:List UInt8} (hs:stepD (bs.drop a) s=.next k { s with link:=some t }) (ht:t.length≤1048576) :
 RRd w0 w bs (a+k) { s with link:=some t } vo xs vg q n c nm t hx hl true:=
 { h with link:=rfl,lenN:=⟨h.lenN.1,ht,h.lenN.2.2⟩,le:=(h.next_le hs).1,read:=(h.next_le hs).2.2,gsz:=Nat.le_trans h.gsz (Nat.le_add_right _ _) }
theorem RRd.nextX (h:RRd w0 w bs a s vo xs vg q n c nm lk hx hl hk) {k:Nat} {rs:RecL} (hs:stepD (bs.drop a) s=.next k { s with hasX:=true,own:=rs }) (hr:∀ r ∈ rs,r.2.length≤1048576) (hrl:rs.length≤1048576)
 {w1:World} (h1:RRd w0 w1 bs a s vo xs vg q n c nm lk hx hl hk) {q':Option Addr} {c':Nat} (hq:RecsAt w q' rs.length rs) (hnew:∀ z,q'=some z → w1.heap.size≤z.block) :
 RRd w0 w bs (a+k) { s with hasX:=true,own:=rs } vo xs vg q' rs.length c' nm lk true hl hk:=
 { h with
   own:=hq
   offQ:=fun _ z hz => ⟨fun e => by have:=(World.ownsRow.lt h1.row _ e).2;have:=hnew z hz;omega,fun e => by have:=(World.ownsRow.lt h1.glob _ e).2;have:=hnew z hz;omega⟩
   hasX:=rfl
   lenO:=hr
   lenN:=⟨h.lenN.1,h.lenN.2.1,hrl⟩
   le:=(h.next_le hs).1
   read:=(h.next_le hs).2.2
   gsz:=Nat.le_trans h.gsz (Nat.le_add_right _ _) }
theorem RRd.nextG (h:RRd w0 w bs a s vo xs vg q n c nm lk hx hl hk) {k:Nat} {rs:RecL} (hs:stepD (bs.drop a) s=.next k { s with glob:=s.glob++rs }) (hr:∀ r ∈ rs,r.2.length≤1048576) (hrl:rs.length≤k)
 {vg':Value} (hrow:w'.ownsRow w0.heap.size 53 2 vg' (s.glob++rs).length (flatR (s.glob++rs))) (hg:w.grownBy w' vg.ownBlock) (hn:NewOr w vg vg') :
 RRd w0 w' bs (a+k) { s with glob:=s.glob++rs } vo xs vg' q n c nm lk hx hl hk:=by
 have hK:Kept (fun b => vg.ownBlock=some b) w w':=(Kept.refl _ w).grown hg (fun k hk => .inr hk)
 have lt:∀ {b:Nat},vg'.ownBlock=some b → b < w.heap.size → vg.ownBlock=some b:=fun hb hlt => by
  rcases hn _ hb with h | h
  ·exact h
  ·omega
 exact
 { bel:=h.bel.trans (hK.below h.bel.size (fun k hk => (World.ownsRow.lt h.glob _ hk).1))
   row:=ownsRow_kept h.row hK (rows_apart h.row h.glob (by decide))
   out:=h.out
   bodies:=fun x hx => (h.bodies x hx).kept hK (fun h0 z hz => (h.offX x hx h0 z hz).2)
   glob:=hrow
   own:=recs_kept h.own hK (fun h0 z hz => (h.offQ h0 z hz).2)
   offX:=fun x hx h0 z hz => ⟨(h.offX x hx h0 z hz).1,fun e => (h.offX x hx h0 z hz).2 (lt e (bat_lt (h.bodies x hx).bat h0 hz))⟩
   offQ:=fun h0 z hz => ⟨(h.offQ h0 z hz).1,fun e => (h.offQ h0 z hz).2 (lt e (recs_lt h.own h0 hz))⟩
   name:=h.name
   link:=h.link
   hasX:=h.hasX
   lenG:=fun r hr' => by
    rcases List.mem_append.1 hr' with hr' | hr'
    ·exact h.lenG r hr'
    ·exact hr r hr'
   lenO:=h.lenO
   lenN:=h.lenN
   gsz:=by have:=h.gsz;show (s.glob++rs).length≤_;rw [List.length_append];omega
   full:=h.full
   le:=(h.next_le hs).1
   read:=(h.next_le hs).2.2 }
theorem RRd.nextM (h:RRd w0 w bs a s vo xs vg q n c nm lk hx hl hk) {k:Nat} {y:MP} (hs:stepD (bs.drop a) s=.next k { s with out:=s.out++[y.m],own:=[],name:=none,link:=none,hasX:=false }) (hf:s.out.length < 4096)
 (hy:BodyAt w y) (hyo:0 < y.m.body.length → ∀ z,y.p=some z → vo.ownBlock≠some z.block∧vg.ownBlock≠some z.block)
 {vo':Value} (hrow:w'.ownsRow w0.heap.size 37 8 vo' (xs++[y]).length (flatM (xs++[y]))) (hg:w.grownBy w' vo.ownBlock) (hn:NewOr w vo vo') :
 RRd w0 w' bs (a+k) { s with out:=s.out++[y.m],own:=[],name:=none,link:=none,hasX:=false } vo' (xs++[y]) vg none 0 0 [] [] false false false:=by
 have hK:Kept (fun b => vo.ownBlock=some b) w w':=(Kept.refl _ w).grown hg (fun k hk => .inr hk)
 have lt:∀ {b:Nat},vo'.ownBlock=some b → b < w.heap.size → vo.ownBlock=some b:=fun hb hlt => by
  rcases hn _ hb with h | h
  ·exact h
  ·omega
 have all:∀ x ∈ xs++[y],BodyAt w x∧(0 < x.m.body.length → ∀ z,x.p=some z → vo.ownBlock≠some z.block∧vg.ownBlock≠some z.block):=fun x hx => by
  rcases List.mem_append.1 hx with hx | hx
  ·exact ⟨h.bodies x hx,h.offX x hx⟩
  ·rw [List.mem_singleton.1 hx]
   exact ⟨hy,hyo⟩
 exact
 { bel:=h.bel.trans (hK.below h.bel.size (fun k hk => (World.ownsRow.lt h.row _ hk).1))
   row:=hrow
   out:=by rw [List.map_append,h.out];rfl
   bodies:=fun x hx => (all x hx).1.kept hK (fun h0 z hz => ((all x hx).2 h0 z hz).1)
   glob:=ownsRow_kept h.glob hK (fun b hb hb' => rows_apart h.row h.glob (by decide) b hb' hb)
   own:=⟨rfl,fun h => absurd h (by omega)⟩
   offX:=fun x hx h0 z hz => ⟨fun e => ((all x hx).2 h0 z hz).1 (lt e (bat_lt (all x hx).1.bat h0 hz)),((all x hx).2 h0 z hz).2⟩
   offQ:=fun h => absurd h (by omega)
   name:=rfl
   link:=rfl
   hasX:=rfl
   lenG:=h.lenG
   lenO:=fun r hr => by cases hr
   lenN:=⟨Nat.zero_le _,Nat.zero_le _,Nat.zero_le _⟩
   gsz:=Nat.le_trans h.gsz (Nat.le_add_right _ _)
   full:=by show (s.out++[y.m]).length≤_;rw [List.length_append];simp only [List.length_cons,List.length_nil];omega
   le:=(h.next_le hs).1
   read:=(h.next_le hs).2.2 }
end
theorem append_recs_new {w:World} {ops:Array Oper} {rest:List Oper} {o:Oper} {a:Act} {Q:Exit → Act → World → Prop} (hgd:o.guard=none) (s x:Operand)
 (ho:o.op=.call { callee:=.builtin .append,args:=#[s,x],argTypes:=#[73,73] })
 (base:Nat) (v:Value) (n:Nat) (xs:RecL) (hn:xs.length=n) (hs:a.eval s=v) (hown:w.ownsRow base 53 2 v n (flatR xs))
 (p:Option Addr) (m c:Nat) (rs:RecL) (hx:a.eval x=.slice p m c) (hb:RecsAt w p m rs) (hsum:(n+m) * 32≤140737488355328) (hbase:base≤w.heap.size)
 (h:∀ v' w',w'.ownsRow base 53 2 v' (xs++rs).length (flatR (xs++rs)) → w.grownBy w' v.ownBlock → NewOr w v v' → wpList Tryz.prog ops Q rest (a.put o.dst v') w'):wpList Tryz.prog ops Q (o :: rest) a w:=by
 obtain ⟨i0,hi,hz0,hz1,hz2⟩:=info_parts infoRec;have hl:=hb.1;rcases p with _ | ad
 ·have hm:m=0:=by
   rcases Nat.eq_zero_or_pos m with h0 | h0
   ·exact h0
   ·obtain ⟨_,_,he,_⟩:=hb.2 h0
    cases he
  subst hm;obtain rfl:rs=[]:=List.eq_nil_of_length_eq_zero hl
  have hrun:(Builtin.append_ #[73,73] o.type #[v,.slice none 0 c]).run Tryz.prog w=.ok v w:=by
   rcases hown.2 with ⟨rfl,rfl⟩ | ⟨g,cap,cur,rfl,_,_,hnc,_⟩
   ·simp [Builtin.append_,run_underlying Tryz.underlying73,sizeOf,typeInfo,hi,Builtin.lenOf,Builtin.firstCells]
   ·simp [Builtin.append_,run_underlying Tryz.underlying73,sizeOf,typeInfo,hi,Builtin.lenOf,Builtin.firstCells,hnc,storeCells]
  refine wpList_plain hgd fun K hK => ?_
  unfold Oper.wp;simp [execOp,ho,resolve,invoke,builtin,hs,hx,hrun,Result.andThen];exact hK _ _ (h v w (by rw [List.append_nil,hn];exact hown) (World.grownBy.refl w _) (NewOr.refl w v))
 ·obtain ⟨v',w',hr,h2,h3,h4⟩:=run_append_newS (P:=Tryz.prog) base 73 o.type 53 i0 _ 2 32 Tryz.underlying73 hi hz0 hz1 hz2 rfl (by decide) v n (flatR xs) hown ad m c (flatR rs) (by rw [flatR_length,hl];omega) (by
   intro j u hj
   have hjl:j < 2 * m:=by
    have:=(List.getElem?_eq_some_iff.1 hj).1;rw [flatR_length,hl] at this;exact this
   obtain ⟨b,off,he,_,hc⟩:=hb.2 (by omega)
   cases he
   obtain ⟨c0,c1⟩:=hc (j / 2) (by omega)
   obtain ⟨g0,g1⟩:=flatR_get rs (j / 2) (by omega)
   rw [Lib.add_plain];rcases Nat.mod_two_eq_zero_or_one j with hj2 | hj2
   ·have e:j=2 * (j / 2):=by omega
    rw [e] at hj;rw [g0] at hj
    cases hj
    rw [show off+j=off+2 * (j / 2) by omega]
    exact c0
   ·have e:j=2 * (j / 2)+1:=by omega
    rw [e] at hj;rw [g1] at hj
    cases hj
    rw [show off+j=off+2 * (j / 2)+1 by omega]
    exact c1) (flatR_one rs) (by unfold maxLen;omega) hsum hbase
  refine wpList_plain hgd fun K hK => ?_
  unfold Oper.wp;simp [execOp,ho,resolve,invoke,builtin,hs,hx,hr,Result.andThen];rw [← flatR_app,show n+m=(xs++rs).length by rw [List.length_append,hn,hl]] at h2
  exact hK _ _ (h v' w' h2 h3 h4)
end Go.Proofs.YtdjedimjhogdoaaGreatDoor.Mem
end
section
namespace Go.Proofs.YtdjedimjhogdoaaGreatDoor.Mem
open Go.ChangeShapes Go.WideShapes Go.ChangeAt Go.RowKit Base Byt Txt Bk Hp Head Num Path Go.Lib
set_option linter.unusedVariables false
set_option maxRecDepth 100000
theorem rmeta_any (a b c d:Int) (w:World) :
 Calls Tryz.prog 38 #[.agg #[.int .i64 a,.int .i64 b,.int .i64 c,.int .i64 d]] w fun e w' => e=.returned (.bool (metaOk a b c d))∧Below w.heap.size w w':=by
 obtain ⟨r,hr⟩:∃ r,metaOk a b c d=r:=⟨_,rfl⟩;rw [hr];unfold metaOk at hr;have HB:=Lib.hid ((Below.refl w.heap.size w).alloc (Nat.le_refl _) (.cells #[.int .i64 a,.int .i64 b,.int .i64 c,.int .i64 d] 35))
 by_cases h0:0≤a
 ·by_cases h1:a≤4095
  ·by_cases h2:0≤b
   ·by_cases h3:b < 2147483648
    ·by_cases h4:0≤c
     ·by_cases h5:c < 2147483648
      ·by_cases h6:0≤d
       ·by_cases h7:d≤1099511627776
        ·obtain rfl:r=true:=by rw [← hr];simp only [decide_eq_true_eq];omega
         clear hr
         go_enter Tryz.func38,Tryz.ntmps38
         go_wp2
         go_ret
         exact ⟨rfl,HB.out⟩
        ·obtain rfl:r=false:=by rw [← hr];simp only [decide_eq_false_iff_not];omega
         have hd:decide (d≤1099511627776)=false:=by simpa using h7
         clear hr
         go_enter Tryz.func38,Tryz.ntmps38
         go_wp2
         go_ret
         exact ⟨rfl,HB.out⟩
       ·obtain rfl:r=false:=by rw [← hr];simp only [decide_eq_false_iff_not];omega
        have hd:decide (0≤d)=false:=by simpa using h6
        clear hr
        go_enter Tryz.func38,Tryz.ntmps38
        go_wp2
        go_ret
        exact ⟨rfl,HB.out⟩
      ·obtain rfl:r=false:=by rw [← hr];simp only [decide_eq_false_iff_not];omega
       have hd:decide (c < 2147483648)=false:=by simpa using h5
       clear hr
       go_enter Tryz.func38,Tryz.ntmps38
       go_wp2
       go_ret
       exact ⟨rfl,HB.out⟩
     ·obtain rfl:r=false:=by rw [← hr];simp only [decide_eq_false_iff_not];omega
      have hd:decide (0≤c)=false:=by simpa using h4
      clear hr
      go_enter Tryz.func38,Tryz.ntmps38
      go_wp2
      go_ret
      exact ⟨rfl,HB.out⟩
    ·obtain rfl:r=false:=by rw [← hr];simp only [decide_eq_false_iff_not];omega
     have hd:decide (b < 2147483648)=false:=by simpa using h3
     clear hr
     go_enter Tryz.func38,Tryz.ntmps38
     go_wp2
     go_ret
     exact ⟨rfl,HB.out⟩
   ·obtain rfl:r=false:=by rw [← hr];simp only [decide_eq_false_iff_not];omega
    have hd:decide (0≤b)=false:=by simpa using h2
    clear hr
    go_enter Tryz.func38,Tryz.ntmps38
    go_wp2
    go_ret
    exact ⟨rfl,HB.out⟩
  ·obtain rfl:r=false:=by rw [← hr];simp only [decide_eq_false_iff_not];omega
   have hd:decide (a≤4095)=false:=by simpa using h1
   clear hr
   go_enter Tryz.func38,Tryz.ntmps38
   go_wp2
   go_ret
   exact ⟨rfl,HB.out⟩
 ·obtain rfl:r=false:=by rw [← hr];simp only [decide_eq_false_iff_not];omega
  have hd:decide (0≤a)=false:=by simpa using h0
  clear hr
  go_enter Tryz.func38,Tryz.ntmps38
  go_wp2
  go_ret
  exact ⟨rfl,HB.out⟩
theorem rtarget_any (l:List UInt8) (w:World) (hm:l.length≤140737488351232) :
 Calls Tryz.prog 39 #[.string (str l)] w fun e w' => e=.returned (.int .i64 (targetD 9 6 l))∧w=w':=by
 have hT:=rtext_any (str l) w (by rw [str_size];omega)
 rw [str_data] at hT;have hs:(str l).size=l.length:=str_size l;obtain ⟨r,hr⟩:∃ r,targetD 9 6 l=r:=⟨_,rfl⟩;rw [hr];unfold targetD at hr
 cases hx:textD l with
 | false =>
   rw [hx] at hr hT;simp only [if_true] at hr;subst hr
   go_enter Tryz.func39,Tryz.ntmps39
   go_wp2_with fail
   refine hT.mono ?_
   rintro e w1 ⟨rfl,rfl⟩
   go_wp2
   go_ret
   exact ⟨rfl,rfl⟩
 | true =>
   rw [hx] at hr hT
   by_cases h0:l=[]
   ·subst h0
    simp at hr;subst hr
    go_enter Tryz.func39,Tryz.ntmps39
    go_wp2_with fail
    refine hT.mono ?_
    rintro e w1 ⟨rfl,rfl⟩;have e0:(str []).toList.isEmpty=true:=by rw [str_empty];rfl
    go_wp2
    go_ret
    exact ⟨rfl,rfl⟩
   ·have e0:(str l).toList.isEmpty=false:=by rw [str_empty];simpa using h0
    by_cases h1:200 < l.length
    ·have h2:(200:Int) < (l.length:Int):=by omega
     simp [h0,h1] at hr;subst hr
     go_enter Tryz.func39,Tryz.ntmps39
     go_wp2_with fail
     refine hT.mono ?_
     rintro e w1 ⟨rfl,rfl⟩
     go_wp2
     go_ret
     exact ⟨rfl,rfl⟩
    ·have h2:¬ (200:Int) < (l.length:Int):=by omega
     simp [h0,h1] at hr;subst hr
     go_enter Tryz.func39,Tryz.ntmps39
     go_wp2_with fail
     refine hT.mono ?_
     rintro e w1 ⟨rfl,rfl⟩
     go_wp2
     go_ret
     exact ⟨rfl,rfl⟩
end Go.Proofs.YtdjedimjhogdoaaGreatDoor.Mem
end
section
namespace Go.Proofs.YtdjedimjhogdoaaGreatDoor.Mem
open Go.ChangeShapes Go.WideShapes Go.ChangeAt Go.RowKit Base Byt Txt Bk Hp Head Num Path Go.Lib
set_option linter.unusedVariables false
set_option maxRecDepth 100000
theorem equal_any (p q:Option Addr) (n c m d:Nat) (a b:List UInt8) (w:World) (ha:a.length=n) (hb:b.length=m) (h1:BAt w p n a) (h2:BAt w q m b) :
 Calls Tryz.prog 43 #[.slice p n c,.slice q m d] w fun e w' => e=.returned (.bool (decide (a=b)))∧w=w':=by
 have c1:(convert 22 9 (.slice p n c)).run Tryz.prog w=.ok (.string (str a)) w:=conv_at h1 ha _ _ _ Tryz.underlying22 Tryz.underlying5 Tryz.underlying9 _;have c2:(convert 22 9 (.slice q m d)).run Tryz.prog w=.ok (.string (str b)) w:=conv_at h2 hb _ _ _ Tryz.underlying22 Tryz.underlying5 Tryz.underlying9 _
 have e1:((str a).toList == (str b).toList)=decide (a=b):=by
  rw [str_toList,str_toList]
  by_cases h:a=b<;>simp [h]
 clear h1 h2
 go_enter Tryz.func43,Tryz.ntmps43
 go_wp2
 go_ret
 exact ⟨rfl,rfl⟩
theorem eqMeta_deep (a b c d a' b' c' d':Int) (n:Nat) (w:World):(Op.equalIn (n+1+1) 35 (.agg #[.int .i64 a,.int .i64 b,.int .i64 c,.int .i64 d]) (.agg #[.int .i64 a',.int .i64 b',.int .i64 c',.int .i64 d'])).run Tryz.prog w=.ok (decide (a=a'∧b=b'∧c=c'∧d=d')) w:=by
 have hM:Tryz.prog.underlying 35=some (.struct (Tryz.prog.fieldsOf 35)):=by kernel_rfl
 have pM:Tryz.prog.stoodInHeld 35=false:=by kernel_rfl
 rw [run_equalIn_agg (P:=Tryz.prog) w (n+1) 35 _ _ hM pM];clear hM pM;simp only [Program.fieldsOf,Tryz.underlying35]
 go_simp
 by_cases h4:a=a'<;>by_cases h5:b=b'<;>by_cases h6:c=c'<;>by_cases h7:d=d'<;>simp [h4,h5,h6,h7]
theorem eqMeta (a b c d a' b' c' d':Int) (w:World):(binOp .eql 35 (.agg #[.int .i64 a,.int .i64 b,.int .i64 c,.int .i64 d]) (.agg #[.int .i64 a',.int .i64 b',.int .i64 c',.int .i64 d'])).run Tryz.prog w=.ok (.bool (decide (a=a'∧b=b'∧c=c'∧d=d'))) w:=by
 rw [run_eql_struct,show (10000:Nat)=9998+1+1 from rfl,eqMeta_deep]
 rfl
theorem same_is (a b:MemV):decide (a=b)=(decide (a.path=b.path) && (decide (a.target=b.target) && ((((a.kind.toNat:Int)) == (b.kind.toNat:Int)) && (decide (a.mode=b.mode∧a.uid=b.uid∧a.gid=b.gid∧a.time=b.time) && decide (a.body=b.body))))):=by
 have s2:(((a.kind.toNat:Int)) == (b.kind.toNat:Int))=decide (a.kind=b.kind):=by
  by_cases h:a.kind=b.kind
  ·simp [h]
  ·have:¬ a.kind.toNat=b.kind.toNat:=fun hh => h (UInt8.toNat.inj hh)
   simp only [h,decide_false,beq_eq_false_iff_ne,ne_eq];omega
 rw [s2,Bool.eq_iff_iff];simp only [decide_eq_true_eq,Bool.and_eq_true];constructor
 ·rintro rfl;simp
 ·rintro ⟨h1,h2,h3,⟨h4,h5,h6,h7⟩,h8⟩
  cases a;cases b;simp_all
set_option maxHeartbeats 4000000 in
theorem same_any (a b:MemV) (p q:Option Addr) (c d:Nat) (w:World) (h1:BAt w p a.body.length a.body) (h2:BAt w q b.body.length b.body) :
 Calls Tryz.prog 17 #[.agg (memC a p c),.agg (memC b q d)] w fun e w' => e=.returned (.bool (decide (a=b)))∧Below w.heap.size w w':=by
 rw [same_is];unfold memC;obtain ⟨n,hn⟩:∃ n,a.body.length=n:=⟨_,rfl⟩;obtain ⟨m,hm⟩:∃ m,b.body.length=m:=⟨_,rfl⟩;obtain ⟨ka,hka⟩:∃ k:Int,(a.kind.toNat:Int)=k:=⟨_,rfl⟩;obtain ⟨kb,hkb⟩:∃ k:Int,(b.kind.toNat:Int)=k:=⟨_,rfl⟩;rw [hn] at h1;rw [hm] at h2;rw [hn,hm,hka,hkb]
 have e1:((str a.path).toList == (str b.path).toList)=decide (a.path=b.path):=by
  rw [str_toList,str_toList]
  by_cases h:a.path=b.path<;>simp [h]
 have e2:((str a.target).toList == (str b.target).toList)=decide (a.target=b.target):=by
  rw [str_toList,str_toList]
  by_cases h:a.target=b.target<;>simp [h]
 have e4:=fun w => eqMeta a.mode a.uid a.gid a.time b.mode b.uid b.gid b.time w
 obtain ⟨x1,hx1⟩:∃ x,decide (a.path=b.path)=x:=⟨_,rfl⟩;obtain ⟨x2,hx2⟩:∃ x,decide (a.target=b.target)=x:=⟨_,rfl⟩;obtain ⟨x3,e3⟩:∃ x,(ka == kb)=x:=⟨_,rfl⟩;obtain ⟨x4,hx4⟩:∃ x,decide (a.mode=b.mode∧a.uid=b.uid∧a.gid=b.gid∧a.time=b.time)=x:=⟨_,rfl⟩;obtain ⟨x5,hx5⟩:∃ x,decide (a.body=b.body)=x:=⟨_,rfl⟩;rw [hx1] at e1;rw [hx2] at e2;simp only [hx4] at e4;rw [hx1,hx2,e3,hx4,hx5];have HX5:=Lib.hid hx5;have HL:=Lib.hid (And.intro hn hm);clear hx1 hx2 hx4 hx5 hn hm hka hkb;obtain ⟨W2,hW2⟩:∃ W2,(w.alloc (.cells #[.string (str a.path),.string (str a.target),.int .u8 ka,.int .i64 a.mode,.int .i64 a.uid,.int .i64 a.gid,.int .i64 a.time,.slice p n c] 37)).alloc (.cells #[.string (str b.path),.string (str b.target),.int .u8 kb,.int .i64 b.mode,.int .i64 b.uid,.int .i64 b.gid,.int .i64 b.time,.slice q m d] 37)=W2:=⟨_,rfl⟩
 have hB:Below w.heap.size w W2:=by rw [← hW2];exact ((Below.refl w.heap.size w).alloc (Nat.le_refl _) _).alloc (by simp) _
 have HB:=Lib.hid hB;have HA:=Lib.hid (h1.below hB);have HBB:=Lib.hid (h2.below hB);have hX:Blk W2 w.heap.size 37 #[.string (str a.path),.string (str a.target),.int .u8 ka,.int .i64 a.mode,.int .i64 a.uid,.int .i64 a.gid,.int .i64 a.time,.slice p n c]:=by rw [← hW2];exact (Blk.new w _ _).alloc _
 have hY:Blk W2 (w.heap.size+1) 37 #[.string (str b.path),.string (str b.target),.int .u8 kb,.int .i64 b.mode,.int .i64 b.uid,.int .i64 b.gid,.int .i64 b.time,.slice q m d]:=by
  have:=Blk.new (w.alloc (.cells #[.string (str a.path),.string (str a.target),.int .u8 ka,.int .i64 a.mode,.int .i64 a.uid,.int .i64 a.gid,.int .i64 a.time,.slice p n c] 37)) 37 #[.string (str b.path),.string (str b.target),.int .u8 kb,.int .i64 b.mode,.int .i64 b.uid,.int .i64 b.gid,.int .i64 b.time,.slice q m d];rw [World.size_alloc] at this;rw [← hW2];exact this
 have c0:=hX.cell 0;have d0:=hY.cell 0;have c1:=hX.cell 1;have d1:=hY.cell 1;have c2:=hX.cell 2;have d2:=hY.cell 2;have c3:=hX.cell 3;have d3:=hY.cell 3;have c4:=hX.cell 4;have d4:=hY.cell 4;have c5:=hX.cell 5;have d5:=hY.cell 5;have c6:=hX.cell 6;have d6:=hY.cell 6;have c7:=hX.cell 7;have d7:=hY.cell 7;simp only [List.getElem?_toArray,List.getElem?_cons_zero,List.getElem?_cons_succ] at c0 d0 c1 d1 c2 d2 c3 d3 c4 d4 c5 d5 c6 d6 c7 d7;clear hX hY hB h1 h2
 cases x1 with
 | false =>
   go_enter Tryz.func17,Tryz.ntmps17
   go_upto_region 1 with fail
   clear hW2
   go_wp2
   go_ret
   exact ⟨rfl,HB.out⟩
 | true =>
   cases x2 with
   | false =>
     go_enter Tryz.func17,Tryz.ntmps17
     go_upto_region 1 with fail
     clear hW2
     go_wp2
     go_ret
     exact ⟨rfl,HB.out⟩
   | true =>
     cases x3 with
     | false =>
       go_enter Tryz.func17,Tryz.ntmps17
       go_upto_region 1 with fail
       clear hW2
       go_wp2
       go_ret
       exact ⟨rfl,HB.out⟩
     | true =>
       cases x4 with
       | false =>
         go_enter Tryz.func17,Tryz.ntmps17
         go_upto_region 1 with fail
         clear hW2
         go_wp2
         go_ret
         exact ⟨rfl,HB.out⟩
       | true =>
         go_enter Tryz.func17,Tryz.ntmps17
         go_upto_region 1 with fail
         clear hW2
         go_wp2_with fail
         refine (equal_any p q n c m d a.body b.body W2 HL.out.1 HL.out.2 HA.out HBB.out).mono ?_
         rw [HX5.out];rintro e w3 ⟨rfl,rfl⟩
         go_wp2
         go_ret
         exact ⟨rfl,HB.out⟩
set_option maxHeartbeats 4000000 in
theorem rsame_any (a b:MemV) (p q:Option Addr) (c d:Nat) (w:World) (h1:BAt w p a.body.length a.body) (h2:BAt w q b.body.length b.body) :
 Calls Tryz.prog 18 #[.agg (memC a p c),.agg (memC b q d)] w fun e w' => e=.returned (.bool (decide (a=b)))∧Below w.heap.size w w':=by
 rw [same_is];unfold memC;obtain ⟨n,hn⟩:∃ n,a.body.length=n:=⟨_,rfl⟩;obtain ⟨m,hm⟩:∃ m,b.body.length=m:=⟨_,rfl⟩;obtain ⟨ka,hka⟩:∃ k:Int,(a.kind.toNat:Int)=k:=⟨_,rfl⟩;obtain ⟨kb,hkb⟩:∃ k:Int,(b.kind.toNat:Int)=k:=⟨_,rfl⟩;rw [hn] at h1;rw [hm] at h2;rw [hn,hm,hka,hkb]
 have e1:((str a.path).toList == (str b.path).toList)=decide (a.path=b.path):=by
  rw [str_toList,str_toList]
  by_cases h:a.path=b.path<;>simp [h]
 have e2:((str a.target).toList == (str b.target).toList)=decide (a.target=b.target):=by
  rw [str_toList,str_toList]
  by_cases h:a.target=b.target<;>simp [h]
 have e4:=fun w => eqMeta a.mode a.uid a.gid a.time b.mode b.uid b.gid b.time w
 obtain ⟨x1,hx1⟩:∃ x,decide (a.path=b.path)=x:=⟨_,rfl⟩;obtain ⟨x2,hx2⟩:∃ x,decide (a.target=b.target)=x:=⟨_,rfl⟩;obtain ⟨x3,e3⟩:∃ x,(ka == kb)=x:=⟨_,rfl⟩;obtain ⟨x4,hx4⟩:∃ x,decide (a.mode=b.mode∧a.uid=b.uid∧a.gid=b.gid∧a.time=b.time)=x:=⟨_,rfl⟩;obtain ⟨x5,hx5⟩:∃ x,decide (a.body=b.body)=x:=⟨_,rfl⟩;rw [hx1] at e1;rw [hx2] at e2;simp only [hx4] at e4;rw [hx1,hx2,e3,hx4,hx5];have HX5:=Lib.hid hx5;have HL:=Lib.hid (And.intro hn hm);clear hx1 hx2 hx4 hx5 hn hm hka hkb;obtain ⟨W2,hW2⟩:∃ W2,(w.alloc (.cells #[.string (str a.path),.string (str a.target),.int .u8 ka,.int .i64 a.mode,.int .i64 a.uid,.int .i64 a.gid,.int .i64 a.time,.slice p n c] 37)).alloc (.cells #[.string (str b.path),.string (str b.target),.int .u8 kb,.int .i64 b.mode,.int .i64 b.uid,.int .i64 b.gid,.int .i64 b.time,.slice q m d] 37)=W2:=⟨_,rfl⟩
 have hB:Below w.heap.size w W2:=by rw [← hW2];exact ((Below.refl w.heap.size w).alloc (Nat.le_refl _) _).alloc (by simp) _
 have HB:=Lib.hid hB;have HA:=Lib.hid (h1.below hB);have HBB:=Lib.hid (h2.below hB);have hX:Blk W2 w.heap.size 37 #[.string (str a.path),.string (str a.target),.int .u8 ka,.int .i64 a.mode,.int .i64 a.uid,.int .i64 a.gid,.int .i64 a.time,.slice p n c]:=by rw [← hW2];exact (Blk.new w _ _).alloc _
 have hY:Blk W2 (w.heap.size+1) 37 #[.string (str b.path),.string (str b.target),.int .u8 kb,.int .i64 b.mode,.int .i64 b.uid,.int .i64 b.gid,.int .i64 b.time,.slice q m d]:=by
  have:=Blk.new (w.alloc (.cells #[.string (str a.path),.string (str a.target),.int .u8 ka,.int .i64 a.mode,.int .i64 a.uid,.int .i64 a.gid,.int .i64 a.time,.slice p n c] 37)) 37 #[.string (str b.path),.string (str b.target),.int .u8 kb,.int .i64 b.mode,.int .i64 b.uid,.int .i64 b.gid,.int .i64 b.time,.slice q m d];rw [World.size_alloc] at this;rw [← hW2];exact this
 have c0:=hX.cell 0;have d0:=hY.cell 0;have c1:=hX.cell 1;have d1:=hY.cell 1;have c2:=hX.cell 2;have d2:=hY.cell 2;have c3:=hX.cell 3;have d3:=hY.cell 3;have c4:=hX.cell 4;have d4:=hY.cell 4;have c5:=hX.cell 5;have d5:=hY.cell 5;have c6:=hX.cell 6;have d6:=hY.cell 6;have c7:=hX.cell 7;have d7:=hY.cell 7;simp only [List.getElem?_toArray,List.getElem?_cons_zero,List.getElem?_cons_succ] at c0 d0 c1 d1 c2 d2 c3 d3 c4 d4 c5 d5 c6 d6 c7 d7;clear hX hY hB h1 h2
 cases x1 with
 | false =>
   go_enter Tryz.func18,Tryz.ntmps18
   go_upto_region 1 with fail
   clear hW2
   go_wp2
   go_ret
   exact ⟨rfl,HB.out⟩
 | true =>
   cases x2 with
   | false =>
     go_enter Tryz.func18,Tryz.ntmps18
     go_upto_region 1 with fail
     clear hW2
     go_wp2
     go_ret
     exact ⟨rfl,HB.out⟩
   | true =>
     cases x3 with
     | false =>
       go_enter Tryz.func18,Tryz.ntmps18
       go_upto_region 1 with fail
       clear hW2
       go_wp2
       go_ret
       exact ⟨rfl,HB.out⟩
     | true =>
       cases x4 with
       | false =>
         go_enter Tryz.func18,Tryz.ntmps18
         go_upto_region 1 with fail
         clear hW2
         go_wp2
         go_ret
         exact ⟨rfl,HB.out⟩
       | true =>
         have v1:(convert 22 9 (.slice p n c)).run Tryz.prog W2=.ok (.string (str a.body)) W2:=conv_at HA.out HL.out.1 _ _ _ Tryz.underlying22 Tryz.underlying5 Tryz.underlying9 _;have v2:(convert 22 9 (.slice q m d)).run Tryz.prog W2=.ok (.string (str b.body)) W2:=conv_at HBB.out HL.out.2 _ _ _ Tryz.underlying22 Tryz.underlying5 Tryz.underlying9 _
         have e5:((str a.body).toList == (str b.body).toList)=x5:=by
          rw [← HX5.out,str_toList,str_toList]
          by_cases h:a.body=b.body<;>simp [h]
         go_enter Tryz.func18,Tryz.ntmps18
         go_upto_region 1 with fail
         clear hW2
         go_wp2
         go_ret
         exact ⟨rfl,HB.out⟩
end Go.Proofs.YtdjedimjhogdoaaGreatDoor.Mem
end
section
namespace Go.Proofs.YtdjedimjhogdoaaGreatDoor.Mem
open Go.ChangeShapes Go.WideShapes Go.ChangeAt Go.RowKit Base Byt Txt Bk Hp Head Num Path Go.Lib
set_option linter.unusedVariables false
set_option maxRecDepth 100000
set_option maxHeartbeats 4000000 in
theorem memGood_any (m:MemV) (p:Option Addr) (c:Nat) (w:World) (h1:m.path.length≤1000000000000) (h2:m.target.length≤1000000000000) (hT:Tabs w) :
 Calls Tryz.prog 15 #[.agg (memC m p c)] w fun e w' => e=.returned (.bool (goodD m))∧Below w.heap.size w w':=by
 rw [goodD_is];obtain ⟨⟨fm,fe⟩,hfd⟩:∃ x,fromD (headOfM m)=x:=⟨_,rfl⟩;have hfb:fm.body=[]:=by have:=fromD_body (headOfM m);rw [hfd] at this;exact this
 have CF:∀ wi,Below w.heap.size w wi → Calls Tryz.prog 41 #[.agg #[.string (str m.path),.string (str m.target),.int .u8 (m.kind.toNat:Int),.int .i64 m.mode,.int .i64 m.uid,.int .i64 m.gid,.int .i64 m.time,.int .i64 (m.body.length:Int),.bool false]] wi fun e w' => e=.returned (.tuple #[.agg #[.string (str fm.path),.string (str fm.target),.int .u8 (fm.kind.toNat:Int),.int .i64 fm.mode,.int .i64 fm.uid,.int .i64 fm.gid,.int .i64 fm.time,.slice none 0 0],.int .i64 fe])∧Below wi.heap.size wi w':=fun wi hb => by
  have:=fromHead_any (headOfM m) wi h1 h2 (hT.below hb);rw [hfd] at this;unfold memC at this;simp only [hfb,List.length_nil] at this;exact this
 have HCF:=Lib.hid CF;have C1:=known_any m.kind;unfold memC;obtain ⟨kn,hkn⟩:∃ kn:Int,(m.kind.toNat:Int)=kn:=⟨_,rfl⟩;obtain ⟨bl,hbl⟩:∃ bl,m.body.length=bl:=⟨_,rfl⟩;rw [hkn,hbl] at HCF;rw [hkn] at C1;rw [hkn,hbl]
 have e1:((str fm.path).toList == (str m.path).toList)=decide (fm.path=m.path):=by
  rw [str_toList,str_toList]
  by_cases h:fm.path=m.path<;>simp [h]
 have e2:((str fm.target).toList == (str m.target).toList)=decide (fm.target=m.target):=by
  rw [str_toList,str_toList]
  by_cases h:fm.target=m.target<;>simp [h]
 rw [hfd];simp only;obtain ⟨x0,hx0⟩:∃ x,knownD m.kind=x:=⟨_,rfl⟩;obtain ⟨x1,hx1⟩:∃ x,decide (fm.path=m.path)=x:=⟨_,rfl⟩;obtain ⟨x2,hx2⟩:∃ x,decide (fm.target=m.target)=x:=⟨_,rfl⟩;rw [hx0] at C1;rw [hx0,hx1,hx2];rw [hx1] at e1;rw [hx2] at e2;have HB:=Lib.hid ((Below.refl w.heap.size w).alloc (Nat.le_refl _) (.cells #[.string (str m.path),.string (str m.target),.int .u8 kn,.int .i64 m.mode,.int .i64 m.uid,.int .i64 m.gid,.int .i64 m.time,.slice p bl c] 37));have HX:=Lib.hid (Blk.new w 37 #[.string (str m.path),.string (str m.target),.int .u8 kn,.int .i64 m.mode,.int .i64 m.uid,.int .i64 m.gid,.int .i64 m.time,.slice p bl c])
 clear hx0 hx1 hx2 hkn hbl hfd hfb CF h1 h2 hT
 cases x0 with
 | false =>
   go_enter Tryz.func15,Tryz.ntmps15
   go_wp2_with fail
   refine (C1 _).mono ?_
   rintro e w1 ⟨rfl,rfl⟩
   go_wp2
   go_ret
   exact ⟨rfl,HB.out⟩
 | true =>
   have hb3:∀ (wi:World),Below (w.alloc (.cells #[.string (str m.path),.string (str m.target),.int .u8 kn,.int .i64 m.mode,.int .i64 m.uid,.int .i64 m.gid,.int .i64 m.time,.slice p bl c] 37)).heap.size (w.alloc (.cells #[.string (str m.path),.string (str m.target),.int .u8 kn,.int .i64 m.mode,.int .i64 m.uid,.int .i64 m.gid,.int .i64 m.time,.slice p bl c] 37)) wi → Below w.heap.size w (wi.alloc (.cells #[.string (str fm.path),.string (str fm.target),.int .u8 (fm.kind.toNat:Int),.int .i64 fm.mode,.int .i64 fm.uid,.int .i64 fm.gid,.int .i64 fm.time,.slice none 0 0] 37))  :=fun wi hb =>
    (HB.out.trans (hb.mono HB.out.size)).alloc (HB.out.trans (hb.mono HB.out.size)).size _
   have HB3:=Lib.hid hb3;clear hb3
   by_cases h0:fe=0
   ·subst h0
    go_enter Tryz.func15,Tryz.ntmps15
    go_wp2_with fail
    refine (C1 _).mono ?_
    rintro e w1 ⟨rfl,rfl⟩
    go_wp2_with fail
    refine (HCF.out _ HB.out).mono ?_
    rintro e w2 ⟨rfl,hb⟩;have F:=Lib.hid (HB3.out _ hb);have b9:=HX.out.below (hb.alloc hb.size (.cells #[.string (str fm.path),.string (str fm.target),.int .u8 (fm.kind.toNat:Int),.int .i64 fm.mode,.int .i64 fm.uid,.int .i64 fm.gid,.int .i64 fm.time,.slice none 0 0] 37)) HX.out.lt;have y0:=b9.cell 0;have y1:=b9.cell 1;simp only [List.getElem?_toArray,List.getElem?_cons_zero,List.getElem?_cons_succ] at y0 y1;clear hb b9
    cases x1 with
    | false =>
      go_wp2
      go_ret
      exact ⟨rfl,F.out⟩
    | true =>
      go_wp2
      go_ret
      exact ⟨rfl,F.out⟩
   ·have hne:(fe == 0)=false:=by simpa using h0
    have hd:decide (fe=0)=false:=by simpa using h0
    rw [hd]
    go_enter Tryz.func15,Tryz.ntmps15
    go_wp2_with fail
    refine (C1 _).mono ?_
    rintro e w1 ⟨rfl,rfl⟩
    go_wp2_with fail
    refine (HCF.out _ HB.out).mono ?_
    rintro e w2 ⟨rfl,hb⟩;have F:=Lib.hid (HB3.out _ hb);clear hb
    go_wp2
    go_ret
    exact ⟨rfl,F.out⟩
end Go.Proofs.YtdjedimjhogdoaaGreatDoor.Mem
end
section
namespace Go.Proofs.YtdjedimjhogdoaaGreatDoor.Mem
open Go.ChangeShapes Go.WideShapes Go.ChangeAt Go.RowKit Base Byt Txt Bk Hp Head Num Path Block Go.Lib
set_option linter.unusedVariables false
set_option maxRecDepth 100000
theorem take_getD (l:List UInt8) (k:Nat) (h:k < l.length):l.take (k+1)=l.take k++[l.getD k 0]:=by
 rw [List.take_succ_eq_append_getElem h];simp [List.getD,h]
theorem mem_getD (l:List UInt8) (k:Nat) (h:k < l.length):l.getD k 0 ∈ l:=by
 rw [List.getD,List.getElem?_eq_getElem h];exact List.getElem_mem h
theorem rfits_any (s:ByteArray) (w:World) (hm:s.size≤140737488351232) :
 Calls Tryz.prog 64 #[.string s] w fun e w' => e=.returned (.bool (fitsD s.data.toList))∧w=w':=by
 have HLEN:Hid (s.data.toList.length=s.size):=Lib.hid (by simp)
 go_enter Tryz.func64,Tryz.ntmps64
 go_wp2
 go_loop [3] (fun i => ∃ (k:Nat),k≤s.size∧i=.int .i64 k∧Hid (∀ x ∈ s.data.toList.take k,x.toNat≤127)) (fun i => s.size - (RowKit.intOf i).toNat)
 case atStart => exact ⟨0,Nat.zero_le _,rfl,Lib.hid (by simp)⟩
 case round =>
  obtain ⟨k,hk,rfl,hr⟩:=hrel
  by_cases hlt:k < s.size
  ·have HG:Hid (((s[k]).toNat:Int)=((s.data.toList.getD k 0).toNat:Int)):=Lib.hid (by rw [s_at s k hlt])
   have hkl:k < s.data.toList.length:=by rw [HLEN.out];exact hlt
   have HT:=Lib.hid (take_getD s.data.toList k hkl);have HM:=Lib.hid (mem_getD s.data.toList k hkl);clear hkl;have hxb:=u8_bd (s[k]);obtain ⟨hx0,hx1⟩:=hxb
   by_cases h0:(127:Int) < ((s[k]).toNat:Int)
   ·have E:Hid (fitsD s.data.toList=false):=Lib.hid (by
     unfold fitsD;rw [Bool.eq_false_iff];intro h;have:=of_decide_eq_true (List.all_eq_true.1 h _ HM.out);have hg:=HG.out
     omega)
    go_wp2
    go_ret
    rw [E.out];exact ⟨rfl,rfl⟩
   ·go_wp2
    go_round
    case rel => exact ⟨k+1,by omega,by go_num,Lib.hid (fun y hy => by
     rw [HT.out,List.mem_append] at hy;rcases hy with hy | hy
     ·exact hr.out y hy
     ·simp only [List.mem_singleton] at hy
      subst hy;have hg:=HG.out
      omega)⟩
    case measure => simp [RowKit.intOf];omega
  ·have E:Hid (fitsD s.data.toList=true):=Lib.hid (by
    unfold fitsD;rw [List.all_eq_true];intro x hx
    exact decide_eq_true (hr.out x (by rw [List.take_of_length_le (by rw [HLEN.out];omega)];exact hx)))
   go_wp2
   go_ret
   rw [E.out];exact ⟨rfl,rfl⟩
def PadPost (w:World) (bs:List UInt8) (e:Ending) (w':World):Prop:=∃ v,e=.returned v∧OwnB w' w.heap.size v bs.length bs∧Kept noneB w w'
theorem rpadded_any (p:Option Addr) (n c:Nat) (bs:List UInt8) (w:World) (hl:bs.length=n) (hn:n≤100000000000) (h:BAt w p n bs) :
 Calls Tryz.prog 65 #[.slice p n c] w (PadPost w (padB bs)):=by
 obtain ⟨i0,hi,hz0,hz1,hz2⟩:=info_parts infoU8;have HI:=Lib.hid hi;have HZ0:=Lib.hid hz0;have HZ1:=Lib.hid hz1;have HZ2:=Lib.hid hz2;have HB:=Lib.hid h;have HL:=Lib.hid hl;clear hi hz0 hz1 hz2 h hl;have hbk:=blocks_ge n;have hdiv:((n:Int)+511) / 512 * 512=((blocksOf n:Nat):Int):=by unfold blocksOf;omega
 obtain ⟨B,hB⟩:∃ B,blocksOf n=B:=⟨_,rfl⟩;rw [hB] at hbk hdiv;have HBE:=Lib.hid hB;clear hB;obtain ⟨hb1,hb2⟩:=hbk
 go_enter Tryz.func65,Tryz.ntmps65
 go_wp2_with (at_builtin;refine append_bytes rfl _ _ 22 rfl w.heap.size 5 i0 Tryz.underlying22 HI.out HZ0.out HZ1.out HZ2.out _ 0 [] rfl (World.ownsRow_made w #[] 0 (Nat.le_refl _) (by decide) rfl) p n c bs rfl (HB.out.alloc _) HL.out ?d2 ?d3 ?_)
 case d2 => omega
 case d3 => simp
 intro v1 w1 hown hgrow;have HO1:Hid (OwnB w1 w.heap.size v1 n bs):=Lib.hid (by simpa [OwnB] using hown)
 have HK1:Hid (Kept noneB w w1):=Lib.hid ((((Kept.refl noneB w).alloc _)).grown hgrow (by intro k hk;simp [Value.ownBlock] at hk;omega))
 clear hown hgrow
 go_wp2_with (at_builtin;refine append_zeros_new rfl _ _ 22 3 rfl w.heap.size 5 i0 .i64 .i64 Tryz.underlying22 Tryz.underlying3 HI.out HZ0.out HZ1.out HZ2.out v1 n (nums bs) rfl HO1.out _ (B - n) rfl ?e1 ?e2 HK1.out.size ?_)
 case e1 => omega
 case e2 => omega
 intro v2 w2 hown hgrow _
 have F:Hid (PadPost w (padB bs) (.returned v2) w2):=Lib.hid (by
  refine ⟨v2,rfl,?_,HK1.out.grown hgrow (fun k hk => .inl (HO1.out.lt k hk).1)⟩
  have e:nums (padB bs)=nums bs++zs8 (B - n):=by
   unfold padB;rw [HL.out,HBE.out,← show nums (List.replicate (B - n) 0)=zs8 (B - n) by simp [nums,zs8]]
   unfold nums;rw [List.map_append]
  unfold OwnB;rw [e,padB_length,HL.out,HBE.out];rw [List.map_append]
  exact hown)
 clear hown hgrow
 go_wp2
 go_ret
 exact F.out
end Go.Proofs.YtdjedimjhogdoaaGreatDoor.Mem
end
section
namespace Go.Proofs.YtdjedimjhogdoaaGreatDoor.Mem
open Go.ChangeShapes Go.WideShapes Go.ChangeAt Go.RowKit Base Byt Txt Bk Hp Head Num Path Block Rec Go.Lib
set_option linter.unusedVariables false
set_option maxRecDepth 100000
theorem rzero_any (p:Option Addr) (n c:Nat) (bs:List UInt8) (w:World) (hl:bs.length=n) (hm:n≤140737488351232) (h:BAt w p n bs) :
 Calls Tryz.prog 32 #[.slice p n c] w fun e w' => e=.returned (.bool (zeroB bs))∧w=w':=by
 have H:=Lib.hid h;have HL:=Lib.hid hl;clear h hl
 go_enter Tryz.func32,Tryz.ntmps32
 go_wp2
 go_loop [3] (fun i => ∃ (k:Nat),k≤n∧i=.int .i64 k∧Hid (zeroB (bs.take k)=true)) (fun i => n - (RowKit.intOf i).toNat)
 case atStart => exact ⟨0,Nat.zero_le _,rfl,Lib.hid rfl⟩
 case round =>
  obtain ⟨k,hk,rfl,hr⟩:=hrel
  by_cases hlt:k < n
  ·obtain ⟨b,o,rfl,hbw,hcell⟩:=H.out.cell hlt
   have hc:=hcell k hlt;clear hcell;have HT:=Lib.hid (take_getD bs k (by rw [HL.out];exact hlt))
   have HM:=Lib.hid (mem_getD bs k (by rw [HL.out];exact hlt))
   obtain ⟨x,hx⟩:∃ x:Int,x=((bs.getD k 0).toNat:Int):=⟨_,rfl⟩;rw [← hx] at hc;have HX:=Lib.hid hx;clear hx
   by_cases h0:x=0
   ·subst h0
    have HZ:Hid (zeroB (bs.take (k+1))=true):=Lib.hid (by
     have hz:bs.getD k 0=0:=UInt8.toNat.inj (by have:=HX.out;simp only [UInt8.toNat_zero];omega)
     rw [HT.out,hz];have:=hr.out;unfold zeroB at this ⊢;rw [List.all_append,this]
     rfl)
    go_wp2
    go_round
    case rel => exact ⟨k+1,by omega,by go_num,HZ⟩
    case measure => simp [RowKit.intOf];omega
   ·have hne:(x != 0)=true:=by simpa using h0
    have E:Hid (zeroB bs=false):=Lib.hid (by
     unfold zeroB;rw [Bool.eq_false_iff];intro hh;have hz:=List.all_eq_true.1 hh _ HM.out;have hz2:bs.getD k 0=0:=by simpa using hz
     apply h0;rw [HX.out,hz2]
     rfl)
    go_wp2
    go_ret
    rw [E.out];exact ⟨rfl,rfl⟩
  ·have E:Hid (zeroB bs=true):=Lib.hid (by
    have:=hr.out
    rwa [List.take_of_length_le (by rw [HL.out];omega)] at this)
   go_wp2
   go_ret
   rw [E.out];exact ⟨rfl,rfl⟩
def BodyPost (N a:Nat) (n:Int) (bs:List UInt8) (w:World) (e:Ending) (w':World):Prop:=
 w=w'∧(((2097152 < n ∨ N - a < blocksOf n.toNat)∧e=.returned (.tuple #[.slice none 0 0,.int .i64 (a:Int),.bool false])) ∨
  (n≤2097152∧blocksOf n.toNat≤N - a ∧ ∃ q d,e=.returned (.tuple #[.slice q n.toNat d,.int .i64 ((a+blocksOf n.toNat:Nat):Int),.bool true])∧n.toNat≤d∧d≤maxLen∧BAt w q n.toNat ((bs.drop a).take n.toNat)))
theorem rbody_no {N a:Nat} {m:Nat} {bs:List UInt8} {w:World} (h:(2097152:Int) < (m:Int) ∨ N - a < blocksOf m):BodyPost N a (m:Int) bs w (.returned (.tuple #[.slice none 0 0,.int .i64 (a:Int),.bool false])) w:=⟨rfl,.inl ⟨h,rfl⟩⟩
theorem rbody_yes {N a:Nat} {m m' d:Nat} {bs:List UInt8} {w:World} {q:Option Addr} (hm:m'=m) (h1:(m:Int)≤2097152) (h2:blocksOf m≤N - a) (h3:m≤d) (h4:d≤maxLen) (h5:BAt w q m ((bs.drop a).take m)) {B:Nat} (hB:blocksOf m=B) :
 BodyPost N a (m:Int) bs w (.returned (.tuple #[.slice q m' d,.int .i64 ((a:Int)+(B:Int)),.bool true])) w:=by
 subst hm;exact ⟨rfl,.inr ⟨h1,h2,q,d,by subst hB;rfl,h3,h4,h5⟩⟩
theorem rbody_any (p:Option Addr) (N c:Nat) (bs:List UInt8) (w:World) (a:Nat) (n:Int) (hl:bs.length=N) (hm:N≤140737488351232) (hc:N≤c) (hcm:c≤maxLen) (h:BAt w p N bs) (ha:a≤N) (h0:0≤n) (hn:n≤9223372036854775807) :
 Calls Tryz.prog 34 #[.slice p N c,.int .i64 (a:Int),.int .i64 n] w (BodyPost N a n bs w):=by
 have H:=Lib.hid h;have HL:=Lib.hid hl;have HC:=Lib.hid hcm;clear h hl hcm;obtain ⟨m,rfl⟩:∃ m:Nat,(m:Int)=n:=⟨n.toNat,by omega⟩
 by_cases hbig:(2097152:Int) < (m:Int)
 ·have E:Hid ((2097152:Int) < (m:Int) ∨ N - a < blocksOf m):=Lib.hid (.inl hbig)
  go_enter Tryz.func34,Tryz.ntmps34
  go_wp2
  go_ret3
  exact rbody_no E.out
 ·have hdiv:((m:Int)+511) / 512 * 512=((blocksOf m:Nat):Int):=by unfold blocksOf;omega
  have hbl:=(blocks_ge m).1;have hbu:=(blocks_ge m).2;obtain ⟨B,hB⟩:∃ B,blocksOf m=B:=⟨_,rfl⟩;rw [hB] at hdiv hbl hbu;have HBE:=Lib.hid hB;clear hB
  by_cases hsh:N - a < B
  ·have hshz:(N:Int) - (a:Int) < (B:Int):=by omega
   have E:Hid ((2097152:Int) < (m:Int) ∨ N - a < blocksOf m):=Lib.hid (.inr (by rw [HBE.out];exact hsh))
   go_enter Tryz.func34,Tryz.ntmps34
   go_wp2
   go_ret3
   exact rbody_no E.out
  ·have hshz:¬ ((N:Int) - (a:Int) < (B:Int)):=by omega
   have hb1:=(H.out.drop (k:=a) (c:=c) ha hc HL.out).take (k:=m) (by omega)
   have E:Hid ((m:Int)≤2097152∧blocksOf m≤N - a∧m≤c - a):=Lib.hid ⟨by omega,by rw [HBE.out];omega,by omega⟩
   have hsl:a+m≤c:=by omega
   have hsl2:a+m≤N:=by omega
   by_cases hca:c=a
   ·rw [if_pos hca] at hb1
    have HB1:=Lib.hid hb1;have HCA:=Lib.hid hca;subst hca;clear hb1
    go_enter Tryz.func34,Tryz.ntmps34
    go_wp2
    go_ret3
    exact rbody_yes (d:=0) (m':=0) (by have:=E.out.2.2;omega) E.out.1 E.out.2.1 (by have:=E.out.2.2;omega) (by decide) HB1.out HBE.out
   ·rw [if_neg hca] at hb1
    have HB1:=Lib.hid hb1;clear hb1
    go_enter Tryz.func34,Tryz.ntmps34
    go_wp2
    go_ret3
    exact rbody_yes rfl E.out.1 E.out.2.1 E.out.2.2 (Nat.le_trans (Nat.sub_le _ _) HC.out) HB1.out HBE.out
theorem untilB_at (bs:List UInt8) (k:Nat) (hk:k < bs.length) (h0:∀ x ∈ bs.take k,x≠0) (h1:bs.getD k 0=0):untilB bs=bs.take k:=by
 have e:bs=bs.take k++0 :: bs.drop (k+1):=by
  have h2:bs[k]=0:=by rw [← h1,List.getD,List.getElem?_eq_getElem hk];rfl
  rw [← h2,← List.drop_eq_getElem_cons hk,List.take_append_drop]
 unfold untilB
 conv => lhs;rw [e]
 rw [List.takeWhile_append_of_pos (fun x hx => by simpa using h0 x hx)]
 simp
theorem untilB_all (bs:List UInt8) (h0:∀ x ∈ bs,x≠0):untilB bs=bs:=by
 have:=untilB_app h0 0
 simpa using this
theorem runtil_any (p:Option Addr) (n c:Nat) (bs:List UInt8) (w:World) (hl:bs.length=n) (hc:n≤c) (hm:n≤140737488351232) (h:BAt w p n bs) :
 Calls Tryz.prog 35 #[.slice p n c] w fun e w' => e=.returned (.string (str (untilB bs)))∧w=w':=by
 have H:=Lib.hid h;have HL:=Lib.hid hl;clear h hl
 go_enter Tryz.func35,Tryz.ntmps35
 go_wp2
 go_loop [3] (fun i => ∃ (k:Nat),k≤n∧i=.int .i64 k∧Hid (∀ x ∈ bs.take k,x≠0)) (fun i => n - (RowKit.intOf i).toNat)
 case atStart => exact ⟨0,Nat.zero_le _,rfl,Lib.hid (by simp)⟩
 case round =>
  obtain ⟨k,hk,rfl,hr⟩:=hrel
  by_cases hlt:k < n
  ·have HT:=Lib.hid (take_getD bs k (by rw [HL.out];exact hlt))
   have hcv:=H.out.take (k:=k) (by omega)
   have hlt2:(bs.take k).length=k:=by rw [List.length_take,HL.out];omega
   obtain ⟨b,o,rfl,hbw,hcell⟩:=H.out.cell hlt;have hcv2:=conv_at (P:=Tryz.prog) hcv hlt2 22 5 9 Tryz.underlying22 Tryz.underlying5 Tryz.underlying9 c;have hc:=hcell k hlt;clear hcell hcv hlt2;obtain ⟨x,hx⟩:∃ x:Int,x=((bs.getD k 0).toNat:Int):=⟨_,rfl⟩;rw [← hx] at hc;have HX:=Lib.hid hx;clear hx
   by_cases h0:x=0
   ·subst h0
    have E:Hid (untilB bs=bs.take k):=Lib.hid (untilB_at bs k (by rw [HL.out];exact hlt) hr.out (UInt8.toNat.inj (by have:=HX.out;simp only [UInt8.toNat_zero];omega)))
    go_wp2
    go_ret
    rw [E.out];exact ⟨rfl,rfl⟩
   ·have hne:(x == 0)=false:=by simpa using h0
    have HZ:Hid (∀ y ∈ bs.take (k+1),y≠0):=Lib.hid (fun y hy => by
     rw [HT.out,List.mem_append] at hy;rcases hy with hy | hy
     ·exact hr.out y hy
     ·simp only [List.mem_singleton] at hy
      subst hy;intro h;apply h0;rw [HX.out,h]
      rfl)
    clear hcv2
    go_wp2
    go_round
    case rel => exact ⟨k+1,by omega,by go_num,HZ⟩
    case measure => simp [RowKit.intOf];omega
  ·have E:Hid (untilB bs=bs):=Lib.hid (untilB_all bs (by
    have:=hr.out
    rwa [List.take_of_length_le (by rw [HL.out];omega)] at this))
   have hcv2:=conv_at (P:=Tryz.prog) H.out HL.out 22 5 9 Tryz.underlying22 Tryz.underlying5 Tryz.underlying9 c
   go_wp2
   go_ret
   rw [E.out];exact ⟨rfl,rfl⟩
end Go.Proofs.YtdjedimjhogdoaaGreatDoor.Mem
end
section
namespace Go.Proofs.YtdjedimjhogdoaaGreatDoor.Mem
open Go.ChangeShapes Go.WideShapes Go.ChangeAt Go.RowKit Base Byt Txt Bk Hp Head Num Path Block Attr Rec Go.Lib
set_option linter.unusedVariables false
set_option linter.unusedSectionVars false
set_option maxRecDepth 1000000
def headN:Code → Nat
 | .region k _ _ => k+1
 | .seq x _ => headN x
 | _ => 0
def fromR (n:Nat):Code → Option Code
 | .seq x y => match Nat.beq (headN x) (n+1) with
   | true => some (.seq x y)
   | false => match fromR n y with
     | some r => some r
     | none => fromR n x
 | .cond _ x y => match fromR n x with
   | some r => some r
   | none => fromR n y
 | .block _ x => fromR n x
 | .loop x => fromR n x
 | .scope x => fromR n x
 | _ => none
noncomputable def tailC (n:Nat):Code:=(Tryz.f13.body.bind (fromR n)).getD .skip
structure MC (wa W1 wr:World) (bs:List UInt8) (a N c b0 o0:Nat) (s:RS) (vo:Value) (xs:List MP) (vg:Value) (q:Option Addr) (qn qd:Nat) (nm lk:List UInt8) (hx hl hk:Bool) (h:HeadV):Prop where
 b1:Below wa.heap.size wa W1
 rd:RRd W1 wr bs a s vo xs vg q qn qd nm lk hx hl hk
 box:Blk wr wa.heap.size 28 #[.int .i64 0,.int .i64 0]
 bat:BAt wr (some ⟨b0,o0,none⟩) N bs
 need:Need wr
 len:bs.length=N
 hN:N≤1000000000
 hc:N≤c
 hcm:c≤140737488351232
 ha:a+512≤N
 step:stepD (bs.drop a) s=memD (bs.drop a) h s
 full:¬ 4096≤s.out.length
 kind:¬ (h.kind≠48∧h.kind≠49∧h.kind≠50∧h.kind≠53)
structure MM (wr w:World) (g gm:Nat) (h1:HeadV) (pt tg:List UInt8):Prop where
 sn:Below wr.heap.size wr w
 head:Blk w g 57 (headC h1)
 mem:Blk w gm 37 #[.string (str pt),.string (str tg),.int .u8 (h1.kind.toNat:Int),.int .i64 h1.mode,.int .i64 h1.uid,.int .i64 h1.gid,.int .i64 h1.time,.slice none 0 0]
 gge:wr.heap.size≤gm
theorem MM.below {wr w w':World} {g gm:Nat} {h1:HeadV} {pt tg:List UInt8} (h:MM wr w g gm h1 pt tg) (hb:Below w.heap.size w w'):MM wr w' g gm h1 pt tg:=
 ⟨h.sn.trans (hb.mono h.sn.size),h.head.below hb h.head.lt,h.mem.below hb h.mem.lt,h.gge⟩
theorem MM.ne {wr w:World} {g gm:Nat} {h1:HeadV} {pt tg:List UInt8} (h:MM wr w g gm h1 pt tg):gm≠g:=fun e => by
 have h1:=h.head;have h2:=h.mem;subst e;unfold Blk at h1 h2;rw [h1] at h2;simp only [Option.some.injEq,Obj.cells.injEq] at h2;exact absurd h2.2.1 (by decide)
theorem MM.setP {wr w:World} {g gm:Nat} {h1:HeadV} {pt tg:List UInt8} (h:MM wr w g gm h1 pt tg) (p:List UInt8):MM wr (w.setCell ⟨gm,0,none⟩ (.string (str p))) g gm h1 p tg:=
 ⟨h.sn.setCell (p:=⟨gm,0,none⟩) h.gge _,h.head.other h.ne _,h.mem.set 0 _ (by decide:0 < 8),h.gge⟩
theorem MM.setT {wr w:World} {g gm:Nat} {h1:HeadV} {pt tg:List UInt8} (h:MM wr w g gm h1 pt tg) (p:List UInt8):MM wr (w.setCell ⟨gm,1,none⟩ (.string (str p))) g gm h1 pt p:=
 ⟨h.sn.setCell (p:=⟨gm,1,none⟩) h.gge _,h.head.other h.ne _,h.mem.set 1 _ (by decide:1 < 8),h.gge⟩
def RetOk (wa:World) (a:Nat) (Q:Exit → Act → World → Prop) (er:Int):Prop:=
 ∀ (T:Array Value) (w':World),T.getD 3 undef=.pointer (some ⟨wa.heap.size,0,none⟩) → T.getD 2 undef=.slice none 0 0 → Blk w' wa.heap.size 28 #[.int .i64 er,.int .i64 (a:Int)] → Below wa.heap.size wa w' → Q .ret ⟨T,[]⟩ w'
def RetAll (wa:World) (a:Nat) (bs:List UInt8) (s:RS) (Q:Exit → Act → World → Prop):Prop:=∀ er,stepD (bs.drop a) s=.fault er → RetOk wa a Q er
theorem box_at {wr wc:World} {g:Nat} {t:TypeId} (h:Blk wr g t #[.int .i64 0,.int .i64 0]) (hb:Below wr.heap.size wr wc):wc.cell? ⟨g,0,none⟩=some (.int .i64 0)∧wc.cell? ⟨g,1,none⟩=some (.int .i64 0)∧wc.frozen? ⟨g,0,none⟩=false∧wc.frozen? ⟨g,1,none⟩=false:=
 ⟨(h.below hb h.lt).cell 0,(h.below hb h.lt).cell 1,(h.below hb h.lt).frozen 0,(h.below hb h.lt).frozen 1⟩
theorem fault_below {w W1 wr wc:World} (h1:Below w.heap.size w W1) (h2:Below W1.heap.size W1 wr) (h3:Below wr.heap.size wr wc) (u v:Value):Below w.heap.size w ((wc.setCell ⟨w.heap.size,0,none⟩ u).setCell ⟨w.heap.size,1,none⟩ v):=
 ((h1.trans ((h2.trans (h3.mono h2.size)).mono h1.size)).setCell (p:=⟨w.heap.size,0,none⟩) (Nat.le_refl _) _).setCell (p:=⟨w.heap.size,1,none⟩) (Nat.le_refl _) _
theorem fault_box {wr wc:World} {g:Nat} (h:Blk wr g 28 #[.int .i64 0,.int .i64 0]) (hb:Below wr.heap.size wr wc) (a b:Int):Blk ((wc.setCell ⟨g,0,none⟩ (.int .i64 a)).setCell ⟨g,1,none⟩ (.int .i64 b)) g 28 #[.int .i64 a,.int .i64 b]:=
 ((h.below hb h.lt).set 0 (.int .i64 a) (by decide:0 < 2)).set 1 (.int .i64 b) (by decide:1 < 2)
theorem ret_at {wa W1 wr wc:World} {a:Nat} {Q:Exit → Act → World → Prop} {er:Int} (hE:RetOk wa a Q er) (hbox:Blk wr wa.heap.size 28 #[.int .i64 0,.int .i64 0]) (b1:Below wa.heap.size wa W1) (b2:Below W1.heap.size W1 wr) (sn:Below wr.heap.size wr wc)
 (T:Array Value) (h3:T.getD 3 undef=.pointer (some ⟨wa.heap.size,0,none⟩)) (h2:T.getD 2 undef=.slice none 0 0):Q .ret ⟨T,[]⟩ ((wc.setCell ⟨wa.heap.size,0,none⟩ (.int .i64 er)).setCell ⟨wa.heap.size,1,none⟩ (.int .i64 (a:Int))):=
 hE T _ h3 h2 (fault_box hbox sn er (a:Int)) (fault_below b1 b2 sn _ _)
def NextAll (wa W1:World) (bs:List UInt8) (a N c:Nat) (p:Option Addr) (Q:Exit → Act → World → Prop) (ex:Exit):Prop:=
 ∀ (T:Array Value) (w':World) (tu:Nat) (s':RS) (vo':Value) (xs':List MP) (vg':Value) (q':Option Addr) (qn' qd':Nat) (nm' lk':ByteArray) (hx' hl' hk':Bool),
   RRd W1 w' bs tu s' vo' xs' vg' q' qn' qd' nm'.data.toList lk'.data.toList hx' hl' hk' → a < tu → tu≤N → T.size=298 → T.getD 0 undef=.slice p N c → T.getD 3 undef=.pointer (some ⟨wa.heap.size,0,none⟩) →
   T.getD 4 undef=vo' → T.getD 5 undef=vg' → T.getD 6 undef=.slice q' qn' qd' → T.getD 7 undef=.string nm' → T.getD 8 undef=.string lk' → T.getD 9 undef=.bool hx' → T.getD 10 undef=.bool hl' → T.getD 11 undef=.bool hk' → T.getD 12 undef=.int .i64 (tu:Int) → Q ex ⟨T,[]⟩ w'
set_option maxHeartbeats 4000000 in
theorem te63 {wa W1 wr:World} {bs:List UInt8} {a N c b0 o0:Nat} {s:RS} {vo:Value} {xs:List MP} {vg:Value} {q:Option Addr} {qn qd:Nat} {nm lk:List UInt8} {hx hl hk:Bool} {h:HeadV} {w:World} {er:Int} {u0 u1 u2 u4 u5 u6 u7 u8 u9 u10 u11 u13 u14 u15 u17 u18 u19 u20 u21 u22 u23 u24 u25 u26 u27 u28 u29 u30 u31 u32 u33 u34 u35 u36 u37 u38 u39 u40 u41 u42 u43 u44 u45 u46 u47 u48 u49 u50 u51 u52 u53 u54 u55 u56 u57 u58 u59 u60 u61 u62 u63 u64 u65 u66 u67 u68 u69 u70 u71 u72 u73 u74 u75 u76 u77 u78 u79 u80 u81 u82 u83 u84 u85 u86 u87 u88 u89 u90 u91 u92 u93 u94 u95 u96 u97 u98 u99 u100 u101 u102 u103 u104 u105 u106 u107 u108 u109 u110 u111 u112 u113 u114 u115 u116 u117 u118 u119 u120 u121 u122 u123 u124 u125 u126 u127 u128 u129 u130 u131 u132 u133 u134 u135 u136 u137 u138 u139 u140 u141 u142 u143 u144 u145 u146 u147 u148 u149 u150 u151 u152 u153 u154 u155 u156 u157 u158 u159 u160 u161 u162 u163 u164 u165 u166 u167 u168 u169 u170 u171 u172 u173 u174 u175 u176 u177 u178 u179 u180 u181 u182 u183 u184 u185 u186 u187 u188 u189 u190 u191 u192 u193 u194 u195 u196 u197 u198 u199 u200 u201 u202 u203 u204 u205 u206 u207 u208 u209 u210 u211 u212 u213 u214 u215 u216 u217 u218 u219 u220 u221 u222 u223 u224 u225 u226 u227 u228 u229 u230 u231 u232 u233 u234 u235 u236 u237 u238 u239 u240 u241 u242 u243 u244 u245 u246 u247 u248 u249 u250 u251 u252 u253 u254 u255 u256 u257 u258 u259 u260 u261 u262 u263 u264 u265 u266 u267 u268 u269 u270 u271 u272 u273 u274 u275 u276 u277 u278 u279 u280 u281 u282 u283 u284 u285 u286 u287 u288 u289 u290 u291 u292 u293 u294 u295 u296 u297:Value} {Q:Exit → Act → World → Prop} (C:MC wa W1 wr bs a N c b0 o0 s vo xs vg q qn qd nm lk hx hl hk h) (sn:Below wr.heap.size wr w) (hne:er≠0) (hE:RetOk wa a Q er):Code.wp Tryz.prog (tailC 63) Q ⟨#[u0,u1,u2,.pointer (some ⟨wa.heap.size,0,none⟩),u4,u5,u6,u7,u8,u9,u10,u11,.int .i64 (a:Int),u13,u14,u15,.int .i64 er,u17,u18,u19,u20,u21,u22,u23,u24,u25,u26,u27,u28,u29,u30,u31,u32,u33,u34,u35,u36,u37,u38,u39,u40,u41,u42,u43,u44,u45,u46,u47,u48,u49,u50,u51,u52,u53,u54,u55,u56,u57,u58,u59,u60,u61,u62,u63,u64,u65,u66,u67,u68,u69,u70,u71,u72,u73,u74,u75,u76,u77,u78,u79,u80,u81,u82,u83,u84,u85,u86,u87,u88,u89,u90,u91,u92,u93,u94,u95,u96,u97,u98,u99,u100,u101,u102,u103,u104,u105,u106,u107,u108,u109,u110,u111,u112,u113,u114,u115,u116,u117,u118,u119,u120,u121,u122,u123,u124,u125,u126,u127,u128,u129,u130,u131,u132,u133,u134,u135,u136,u137,u138,u139,u140,u141,u142,u143,u144,u145,u146,u147,u148,u149,u150,u151,u152,u153,u154,u155,u156,u157,u158,u159,u160,u161,u162,u163,u164,u165,u166,u167,u168,u169,u170,u171,u172,u173,u174,u175,u176,u177,u178,u179,u180,u181,u182,u183,u184,u185,u186,u187,u188,u189,u190,u191,u192,u193,u194,u195,u196,u197,u198,u199,u200,u201,u202,u203,u204,u205,u206,u207,u208,u209,u210,u211,u212,u213,u214,u215,u216,u217,u218,u219,u220,u221,u222,u223,u224,u225,u226,u227,u228,u229,u230,u231,u232,u233,u234,u235,u236,u237,u238,u239,u240,u241,u242,u243,u244,u245,u246,u247,u248,u249,u250,u251,u252,u253,u254,u255,u256,u257,u258,u259,u260,u261,u262,u263,u264,u265,u266,u267,u268,u269,u270,u271,u272,u273,u274,u275,u276,u277,u278,u279,u280,u281,u282,u283,u284,u285,u286,u287,u288,u289,u290,u291,u292,u293,u294,u295,u296,u297],[]⟩ w:=by
 have e0:(er == 0)=false:=by simpa using hne
 have e1:(er != 0)=true:=by simpa using hne
 have HC:=Lib.hid C;have HS:=Lib.hid sn;have HE:=Lib.hid hE;have HN:=Lib.hid hne;clear C sn hE hne
 conv => arg 2;whnf
 refine wp_seq_k (fun K hK => ?_)
 have HK:=Lib.hid hK;clear hK;obtain ⟨r0,r1,f0,f1⟩:=box_at HC.out.box HS.out
 go_wp2
 exact ret_at HE.out HC.out.box HC.out.b1 HC.out.rd.bel HS.out _ rfl rfl
set_option maxHeartbeats 4000000 in
theorem te61 {wa W1 wr:World} {bs:List UInt8} {a N c b0 o0:Nat} {s:RS} {vo:Value} {xs:List MP} {vg:Value} {q:Option Addr} {qn qd:Nat} {nm lk:List UInt8} {hx hl hk:Bool} {h:HeadV} {w:World} {er:Int} {u0 u1 u2 u4 u5 u6 u7 u8 u9 u10 u11 u13 u14 u15 u17 u18 u19 u20 u21 u22 u23 u24 u25 u26 u27 u28 u29 u30 u31 u32 u33 u34 u35 u36 u37 u38 u39 u40 u41 u42 u43 u44 u45 u46 u47 u48 u49 u50 u51 u52 u53 u54 u55 u56 u57 u58 u59 u60 u61 u62 u63 u64 u65 u66 u67 u68 u69 u70 u71 u72 u73 u74 u75 u76 u77 u78 u79 u80 u81 u82 u83 u84 u85 u86 u87 u88 u89 u90 u91 u92 u93 u94 u95 u96 u97 u98 u99 u100 u101 u102 u103 u104 u105 u106 u107 u108 u109 u110 u111 u112 u113 u114 u115 u116 u117 u118 u119 u120 u121 u122 u123 u124 u125 u126 u127 u128 u129 u130 u131 u132 u133 u134 u135 u136 u137 u138 u139 u140 u141 u142 u143 u144 u145 u146 u147 u148 u149 u150 u151 u152 u153 u154 u155 u156 u157 u158 u159 u160 u161 u162 u163 u164 u165 u166 u167 u168 u169 u170 u171 u172 u173 u174 u175 u176 u177 u178 u179 u180 u181 u182 u183 u184 u185 u186 u187 u188 u189 u190 u191 u192 u193 u194 u195 u196 u197 u198 u199 u200 u201 u202 u203 u204 u205 u206 u207 u208 u209 u210 u211 u212 u213 u214 u215 u216 u217 u218 u219 u220 u221 u222 u223 u224 u225 u226 u227 u228 u229 u230 u231 u232 u233 u234 u235 u236 u237 u238 u239 u240 u241 u242 u243 u244 u245 u246 u247 u248 u249 u250 u251 u252 u253 u254 u255 u256 u257 u258 u259 u260 u261 u262 u263 u264 u265 u266 u267 u268 u269 u270 u271 u272 u273 u274 u275 u276 u277 u278 u279 u280 u281 u282 u283 u284 u285 u286 u287 u288 u289 u290 u291 u292 u293 u294 u295 u296 u297:Value} {Q:Exit → Act → World → Prop} (C:MC wa W1 wr bs a N c b0 o0 s vo xs vg q qn qd nm lk hx hl hk h) (sn:Below wr.heap.size wr w) (hne:er≠0) (hE:RetOk wa a Q er):Code.wp Tryz.prog (tailC 61) Q ⟨#[u0,u1,u2,.pointer (some ⟨wa.heap.size,0,none⟩),u4,u5,u6,u7,u8,u9,u10,u11,.int .i64 (a:Int),u13,u14,u15,.int .i64 er,u17,u18,u19,u20,u21,u22,u23,u24,u25,u26,u27,u28,u29,u30,u31,u32,u33,u34,u35,u36,u37,u38,u39,u40,u41,u42,u43,u44,u45,u46,u47,u48,u49,u50,u51,u52,u53,u54,u55,u56,u57,u58,u59,u60,u61,u62,u63,u64,u65,u66,u67,u68,u69,u70,u71,u72,u73,u74,u75,u76,u77,u78,u79,u80,u81,u82,u83,u84,u85,u86,u87,u88,u89,u90,u91,u92,u93,u94,u95,u96,u97,u98,u99,u100,u101,u102,u103,u104,u105,u106,u107,u108,u109,u110,u111,u112,u113,u114,u115,u116,u117,u118,u119,u120,u121,u122,u123,u124,u125,u126,u127,u128,u129,u130,u131,u132,u133,u134,u135,u136,u137,u138,u139,u140,u141,u142,u143,u144,u145,u146,u147,u148,u149,u150,u151,u152,u153,u154,u155,u156,u157,u158,u159,u160,u161,u162,u163,u164,u165,u166,u167,u168,u169,u170,u171,u172,u173,u174,u175,u176,u177,u178,u179,u180,u181,u182,u183,u184,u185,u186,u187,u188,u189,u190,u191,u192,u193,u194,u195,u196,u197,u198,u199,u200,u201,u202,u203,u204,u205,u206,u207,u208,u209,u210,u211,u212,u213,u214,u215,u216,u217,u218,u219,u220,u221,u222,u223,u224,u225,u226,u227,u228,u229,u230,u231,u232,u233,u234,u235,u236,u237,u238,u239,u240,u241,u242,u243,u244,u245,u246,u247,u248,u249,u250,u251,u252,u253,u254,u255,u256,u257,u258,u259,u260,u261,u262,u263,u264,u265,u266,u267,u268,u269,u270,u271,u272,u273,u274,u275,u276,u277,u278,u279,u280,u281,u282,u283,u284,u285,u286,u287,u288,u289,u290,u291,u292,u293,u294,u295,u296,u297],[]⟩ w:=by
 have e0:(er == 0)=false:=by simpa using hne
 have e1:(er != 0)=true:=by simpa using hne
 have HC:=Lib.hid C;have HS:=Lib.hid sn;have HE:=Lib.hid hE;have HN:=Lib.hid hne;clear C sn hE hne
 conv => arg 2;whnf
 refine wp_seq_k (fun K hK => ?_)
 have HK:=Lib.hid hK;clear hK
 go_wp2
 exact HK.out _ _ (te63 HC.out HS.out HN.out HE.out)
set_option maxHeartbeats 4000000 in
theorem te59 {wa W1 wr:World} {bs:List UInt8} {a N c b0 o0:Nat} {s:RS} {vo:Value} {xs:List MP} {vg:Value} {q:Option Addr} {qn qd:Nat} {nm lk:List UInt8} {hx hl hk:Bool} {h:HeadV} {w:World} {er:Int} {u0 u1 u2 u4 u5 u6 u7 u8 u9 u10 u11 u13 u14 u15 u17 u18 u19 u20 u21 u22 u23 u24 u25 u26 u27 u28 u29 u30 u31 u32 u33 u34 u35 u36 u37 u38 u39 u40 u41 u42 u43 u44 u45 u46 u47 u48 u49 u50 u51 u52 u53 u54 u55 u56 u57 u58 u59 u60 u61 u62 u63 u64 u65 u66 u67 u68 u69 u70 u71 u72 u73 u74 u75 u76 u77 u78 u79 u80 u81 u82 u83 u84 u85 u86 u87 u88 u89 u90 u91 u92 u93 u94 u95 u96 u97 u98 u99 u100 u101 u102 u103 u104 u105 u106 u107 u108 u109 u110 u111 u112 u113 u114 u115 u116 u117 u118 u119 u120 u121 u122 u123 u124 u125 u126 u127 u128 u129 u130 u131 u132 u133 u134 u135 u136 u137 u138 u139 u140 u141 u142 u143 u144 u145 u146 u147 u148 u149 u150 u151 u152 u153 u154 u155 u156 u157 u158 u159 u160 u161 u162 u163 u164 u165 u166 u167 u168 u169 u170 u171 u172 u173 u174 u175 u176 u177 u178 u179 u180 u181 u182 u183 u184 u185 u186 u187 u188 u189 u190 u191 u192 u193 u194 u195 u196 u197 u198 u199 u200 u201 u202 u203 u204 u205 u206 u207 u208 u209 u210 u211 u212 u213 u214 u215 u216 u217 u218 u219 u220 u221 u222 u223 u224 u225 u226 u227 u228 u229 u230 u231 u232 u233 u234 u235 u236 u237 u238 u239 u240 u241 u242 u243 u244 u245 u246 u247 u248 u249 u250 u251 u252 u253 u254 u255 u256 u257 u258 u259 u260 u261 u262 u263 u264 u265 u266 u267 u268 u269 u270 u271 u272 u273 u274 u275 u276 u277 u278 u279 u280 u281 u282 u283 u284 u285 u286 u287 u288 u289 u290 u291 u292 u293 u294 u295 u296 u297:Value} {Q:Exit → Act → World → Prop} (C:MC wa W1 wr bs a N c b0 o0 s vo xs vg q qn qd nm lk hx hl hk h) (sn:Below wr.heap.size wr w) (hne:er≠0) (hE:RetOk wa a Q er):Code.wp Tryz.prog (tailC 59) Q ⟨#[u0,u1,u2,.pointer (some ⟨wa.heap.size,0,none⟩),u4,u5,u6,u7,u8,u9,u10,u11,.int .i64 (a:Int),u13,u14,u15,.int .i64 er,u17,u18,u19,u20,u21,u22,u23,u24,u25,u26,u27,u28,u29,u30,u31,u32,u33,u34,u35,u36,u37,u38,u39,u40,u41,u42,u43,u44,u45,u46,u47,u48,u49,u50,u51,u52,u53,u54,u55,u56,u57,u58,u59,u60,u61,u62,u63,u64,u65,u66,u67,u68,u69,u70,u71,u72,u73,u74,u75,u76,u77,u78,u79,u80,u81,u82,u83,u84,u85,u86,u87,u88,u89,u90,u91,u92,u93,u94,u95,u96,u97,u98,u99,u100,u101,u102,u103,u104,u105,u106,u107,u108,u109,u110,u111,u112,u113,u114,u115,u116,u117,u118,u119,u120,u121,u122,u123,u124,u125,u126,u127,u128,u129,u130,u131,u132,u133,u134,u135,u136,u137,u138,u139,u140,u141,u142,u143,u144,u145,u146,u147,u148,u149,u150,u151,u152,u153,u154,u155,u156,u157,u158,u159,u160,u161,u162,u163,u164,u165,u166,u167,u168,u169,u170,u171,u172,u173,u174,u175,u176,u177,u178,u179,u180,u181,u182,u183,u184,u185,u186,u187,u188,u189,u190,u191,u192,u193,u194,u195,u196,u197,u198,u199,u200,u201,u202,u203,u204,u205,u206,u207,u208,u209,u210,u211,u212,u213,u214,u215,u216,u217,u218,u219,u220,u221,u222,u223,u224,u225,u226,u227,u228,u229,u230,u231,u232,u233,u234,u235,u236,u237,u238,u239,u240,u241,u242,u243,u244,u245,u246,u247,u248,u249,u250,u251,u252,u253,u254,u255,u256,u257,u258,u259,u260,u261,u262,u263,u264,u265,u266,u267,u268,u269,u270,u271,u272,u273,u274,u275,u276,u277,u278,u279,u280,u281,u282,u283,u284,u285,u286,u287,u288,u289,u290,u291,u292,u293,u294,u295,u296,u297],[]⟩ w:=by
 have e0:(er == 0)=false:=by simpa using hne
 have e1:(er != 0)=true:=by simpa using hne
 have HC:=Lib.hid C;have HS:=Lib.hid sn;have HE:=Lib.hid hE;have HN:=Lib.hid hne;clear C sn hE hne
 conv => arg 2;whnf
 refine wp_seq_k (fun K hK => ?_)
 have HK:=Lib.hid hK;clear hK
 go_wp2
 exact HK.out _ _ (te61 HC.out HS.out HN.out HE.out)
set_option maxHeartbeats 4000000 in
theorem te57 {wa W1 wr:World} {bs:List UInt8} {a N c b0 o0:Nat} {s:RS} {vo:Value} {xs:List MP} {vg:Value} {q:Option Addr} {qn qd:Nat} {nm lk:List UInt8} {hx hl hk:Bool} {h:HeadV} {w:World} {er:Int} {u0 u1 u2 u4 u5 u6 u7 u8 u9 u10 u11 u13 u14 u15 u17 u18 u19 u20 u21 u22 u23 u24 u25 u26 u27 u28 u29 u30 u31 u32 u33 u34 u35 u36 u37 u38 u39 u40 u41 u42 u43 u44 u45 u46 u47 u48 u49 u50 u51 u52 u53 u54 u55 u56 u57 u58 u59 u60 u61 u62 u63 u64 u65 u66 u67 u68 u69 u70 u71 u72 u73 u74 u75 u76 u77 u78 u79 u80 u81 u82 u83 u84 u85 u86 u87 u88 u89 u90 u91 u92 u93 u94 u95 u96 u97 u98 u99 u100 u101 u102 u103 u104 u105 u106 u107 u108 u109 u110 u111 u112 u113 u114 u115 u116 u117 u118 u119 u120 u121 u122 u123 u124 u125 u126 u127 u128 u129 u130 u131 u132 u133 u134 u135 u136 u137 u138 u139 u140 u141 u142 u143 u144 u145 u146 u147 u148 u149 u150 u151 u152 u153 u154 u155 u156 u157 u158 u159 u160 u161 u162 u163 u164 u165 u166 u167 u168 u169 u170 u171 u172 u173 u174 u175 u176 u177 u178 u179 u180 u181 u182 u183 u184 u185 u186 u187 u188 u189 u190 u191 u192 u193 u194 u195 u196 u197 u198 u199 u200 u201 u202 u203 u204 u205 u206 u207 u208 u209 u210 u211 u212 u213 u214 u215 u216 u217 u218 u219 u220 u221 u222 u223 u224 u225 u226 u227 u228 u229 u230 u231 u232 u233 u234 u235 u236 u237 u238 u239 u240 u241 u242 u243 u244 u245 u246 u247 u248 u249 u250 u251 u252 u253 u254 u255 u256 u257 u258 u259 u260 u261 u262 u263 u264 u265 u266 u267 u268 u269 u270 u271 u272 u273 u274 u275 u276 u277 u278 u279 u280 u281 u282 u283 u284 u285 u286 u287 u288 u289 u290 u291 u292 u293 u294 u295 u296 u297:Value} {Q:Exit → Act → World → Prop} (C:MC wa W1 wr bs a N c b0 o0 s vo xs vg q qn qd nm lk hx hl hk h) (sn:Below wr.heap.size wr w) (hne:er≠0) (hE:RetOk wa a Q er):Code.wp Tryz.prog (tailC 57) Q ⟨#[u0,u1,u2,.pointer (some ⟨wa.heap.size,0,none⟩),u4,u5,u6,u7,u8,u9,u10,u11,.int .i64 (a:Int),u13,u14,u15,.int .i64 er,u17,u18,u19,u20,u21,u22,u23,u24,u25,u26,u27,u28,u29,u30,u31,u32,u33,u34,u35,u36,u37,u38,u39,u40,u41,u42,u43,u44,u45,u46,u47,u48,u49,u50,u51,u52,u53,u54,u55,u56,u57,u58,u59,u60,u61,u62,u63,u64,u65,u66,u67,u68,u69,u70,u71,u72,u73,u74,u75,u76,u77,u78,u79,u80,u81,u82,u83,u84,u85,u86,u87,u88,u89,u90,u91,u92,u93,u94,u95,u96,u97,u98,u99,u100,u101,u102,u103,u104,u105,u106,u107,u108,u109,u110,u111,u112,u113,u114,u115,u116,u117,u118,u119,u120,u121,u122,u123,u124,u125,u126,u127,u128,u129,u130,u131,u132,u133,u134,u135,u136,u137,u138,u139,u140,u141,u142,u143,u144,u145,u146,u147,u148,u149,u150,u151,u152,u153,u154,u155,u156,u157,u158,u159,u160,u161,u162,u163,u164,u165,u166,u167,u168,u169,u170,u171,u172,u173,u174,u175,u176,u177,u178,u179,u180,u181,u182,u183,u184,u185,u186,u187,u188,u189,u190,u191,u192,u193,u194,u195,u196,u197,u198,u199,u200,u201,u202,u203,u204,u205,u206,u207,u208,u209,u210,u211,u212,u213,u214,u215,u216,u217,u218,u219,u220,u221,u222,u223,u224,u225,u226,u227,u228,u229,u230,u231,u232,u233,u234,u235,u236,u237,u238,u239,u240,u241,u242,u243,u244,u245,u246,u247,u248,u249,u250,u251,u252,u253,u254,u255,u256,u257,u258,u259,u260,u261,u262,u263,u264,u265,u266,u267,u268,u269,u270,u271,u272,u273,u274,u275,u276,u277,u278,u279,u280,u281,u282,u283,u284,u285,u286,u287,u288,u289,u290,u291,u292,u293,u294,u295,u296,u297],[]⟩ w:=by
 have e0:(er == 0)=false:=by simpa using hne
 have e1:(er != 0)=true:=by simpa using hne
 have HC:=Lib.hid C;have HS:=Lib.hid sn;have HE:=Lib.hid hE;have HN:=Lib.hid hne;clear C sn hE hne
 conv => arg 2;whnf
 refine wp_seq_k (fun K hK => ?_)
 have HK:=Lib.hid hK;clear hK
 go_wp2
 exact HK.out _ _ (te59 HC.out HS.out HN.out HE.out)
set_option maxHeartbeats 4000000 in
theorem te55 {wa W1 wr:World} {bs:List UInt8} {a N c b0 o0:Nat} {s:RS} {vo:Value} {xs:List MP} {vg:Value} {q:Option Addr} {qn qd:Nat} {nm lk:List UInt8} {hx hl hk:Bool} {h:HeadV} {w:World} {er:Int} {u0 u1 u2 u4 u5 u6 u7 u8 u9 u10 u11 u13 u14 u15 u17 u18 u19 u20 u21 u22 u23 u24 u25 u26 u27 u28 u29 u30 u31 u32 u33 u34 u35 u36 u37 u38 u39 u40 u41 u42 u43 u44 u45 u46 u47 u48 u49 u50 u51 u52 u53 u54 u55 u56 u57 u58 u59 u60 u61 u62 u63 u64 u65 u66 u67 u68 u69 u70 u71 u72 u73 u74 u75 u76 u77 u78 u79 u80 u81 u82 u83 u84 u85 u86 u87 u88 u89 u90 u91 u92 u93 u94 u95 u96 u97 u98 u99 u100 u101 u102 u103 u104 u105 u106 u107 u108 u109 u110 u111 u112 u113 u114 u115 u116 u117 u118 u119 u120 u121 u122 u123 u124 u125 u126 u127 u128 u129 u130 u131 u132 u133 u134 u135 u136 u137 u138 u139 u140 u141 u142 u143 u144 u145 u146 u147 u148 u149 u150 u151 u152 u153 u154 u155 u156 u157 u158 u159 u160 u161 u162 u163 u164 u165 u166 u167 u168 u169 u170 u171 u172 u173 u174 u175 u176 u177 u178 u179 u180 u181 u182 u183 u184 u185 u186 u187 u188 u189 u190 u191 u192 u193 u194 u195 u196 u197 u198 u199 u200 u201 u202 u203 u204 u205 u206 u207 u208 u209 u210 u211 u212 u213 u214 u215 u216 u217 u218 u219 u220 u221 u222 u223 u224 u225 u226 u227 u228 u229 u230 u231 u232 u233 u234 u235 u236 u237 u238 u239 u240 u241 u242 u243 u244 u245 u246 u247 u248 u249 u250 u251 u252 u253 u254 u255 u256 u257 u258 u259 u260 u261 u262 u263 u264 u265 u266 u267 u268 u269 u270 u271 u272 u273 u274 u275 u276 u277 u278 u279 u280 u281 u282 u283 u284 u285 u286 u287 u288 u289 u290 u291 u292 u293 u294 u295 u296 u297:Value} {Q:Exit → Act → World → Prop} (C:MC wa W1 wr bs a N c b0 o0 s vo xs vg q qn qd nm lk hx hl hk h) (sn:Below wr.heap.size wr w) (hne:er≠0) (hE:RetOk wa a Q er):Code.wp Tryz.prog (tailC 55) Q ⟨#[u0,u1,u2,.pointer (some ⟨wa.heap.size,0,none⟩),u4,u5,u6,u7,u8,u9,u10,u11,.int .i64 (a:Int),u13,u14,u15,.int .i64 er,u17,u18,u19,u20,u21,u22,u23,u24,u25,u26,u27,u28,u29,u30,u31,u32,u33,u34,u35,u36,u37,u38,u39,u40,u41,u42,u43,u44,u45,u46,u47,u48,u49,u50,u51,u52,u53,u54,u55,u56,u57,u58,u59,u60,u61,u62,u63,u64,u65,u66,u67,u68,u69,u70,u71,u72,u73,u74,u75,u76,u77,u78,u79,u80,u81,u82,u83,u84,u85,u86,u87,u88,u89,u90,u91,u92,u93,u94,u95,u96,u97,u98,u99,u100,u101,u102,u103,u104,u105,u106,u107,u108,u109,u110,u111,u112,u113,u114,u115,u116,u117,u118,u119,u120,u121,u122,u123,u124,u125,u126,u127,u128,u129,u130,u131,u132,u133,u134,u135,u136,u137,u138,u139,u140,u141,u142,u143,u144,u145,u146,u147,u148,u149,u150,u151,u152,u153,u154,u155,u156,u157,u158,u159,u160,u161,u162,u163,u164,u165,u166,u167,u168,u169,u170,u171,u172,u173,u174,u175,u176,u177,u178,u179,u180,u181,u182,u183,u184,u185,u186,u187,u188,u189,u190,u191,u192,u193,u194,u195,u196,u197,u198,u199,u200,u201,u202,u203,u204,u205,u206,u207,u208,u209,u210,u211,u212,u213,u214,u215,u216,u217,u218,u219,u220,u221,u222,u223,u224,u225,u226,u227,u228,u229,u230,u231,u232,u233,u234,u235,u236,u237,u238,u239,u240,u241,u242,u243,u244,u245,u246,u247,u248,u249,u250,u251,u252,u253,u254,u255,u256,u257,u258,u259,u260,u261,u262,u263,u264,u265,u266,u267,u268,u269,u270,u271,u272,u273,u274,u275,u276,u277,u278,u279,u280,u281,u282,u283,u284,u285,u286,u287,u288,u289,u290,u291,u292,u293,u294,u295,u296,u297],[]⟩ w:=by
 have e0:(er == 0)=false:=by simpa using hne
 have e1:(er != 0)=true:=by simpa using hne
 have HC:=Lib.hid C;have HS:=Lib.hid sn;have HE:=Lib.hid hE;have HN:=Lib.hid hne;clear C sn hE hne
 conv => arg 2;whnf
 refine wp_seq_k (fun K hK => ?_)
 have HK:=Lib.hid hK;clear hK
 go_wp2
 exact HK.out _ _ (te57 HC.out HS.out HN.out HE.out)
set_option maxHeartbeats 4000000 in
theorem te53 {wa W1 wr:World} {bs:List UInt8} {a N c b0 o0:Nat} {s:RS} {vo:Value} {xs:List MP} {vg:Value} {q:Option Addr} {qn qd:Nat} {nm lk:List UInt8} {hx hl hk:Bool} {h:HeadV} {w:World} {er:Int} {u0 u1 u2 u4 u5 u6 u7 u8 u9 u10 u11 u13 u14 u15 u17 u18 u19 u20 u21 u22 u23 u24 u25 u26 u27 u28 u29 u30 u31 u32 u33 u34 u35 u36 u37 u38 u39 u40 u41 u42 u43 u44 u45 u46 u47 u48 u49 u50 u51 u52 u53 u54 u55 u56 u57 u58 u59 u60 u61 u62 u63 u64 u65 u66 u67 u68 u69 u70 u71 u72 u73 u74 u75 u76 u77 u78 u79 u80 u81 u82 u83 u84 u85 u86 u87 u88 u89 u90 u91 u92 u93 u94 u95 u96 u97 u98 u99 u100 u101 u102 u103 u104 u105 u106 u107 u108 u109 u110 u111 u112 u113 u114 u115 u116 u117 u118 u119 u120 u121 u122 u123 u124 u125 u126 u127 u128 u129 u130 u131 u132 u133 u134 u135 u136 u137 u138 u139 u140 u141 u142 u143 u144 u145 u146 u147 u148 u149 u150 u151 u152 u153 u154 u155 u156 u157 u158 u159 u160 u161 u162 u163 u164 u165 u166 u167 u168 u169 u170 u171 u172 u173 u174 u175 u176 u177 u178 u179 u180 u181 u182 u183 u184 u185 u186 u187 u188 u189 u190 u191 u192 u193 u194 u195 u196 u197 u198 u199 u200 u201 u202 u203 u204 u205 u206 u207 u208 u209 u210 u211 u212 u213 u214 u215 u216 u217 u218 u219 u220 u221 u222 u223 u224 u225 u226 u227 u228 u229 u230 u231 u232 u233 u234 u235 u236 u237 u238 u239 u240 u241 u242 u243 u244 u245 u246 u247 u248 u249 u250 u251 u252 u253 u254 u255 u256 u257 u258 u259 u260 u261 u262 u263 u264 u265 u266 u267 u268 u269 u270 u271 u272 u273 u274 u275 u276 u277 u278 u279 u280 u281 u282 u283 u284 u285 u286 u287 u288 u289 u290 u291 u292 u293 u294 u295 u296 u297:Value} {Q:Exit → Act → World → Prop} (C:MC wa W1 wr bs a N c b0 o0 s vo xs vg q qn qd nm lk hx hl hk h) (sn:Below wr.heap.size wr w) (hne:er≠0) (hE:RetOk wa a Q er):Code.wp Tryz.prog (tailC 53) Q ⟨#[u0,u1,u2,.pointer (some ⟨wa.heap.size,0,none⟩),u4,u5,u6,u7,u8,u9,u10,u11,.int .i64 (a:Int),u13,u14,u15,.int .i64 er,u17,u18,u19,u20,u21,u22,u23,u24,u25,u26,u27,u28,u29,u30,u31,u32,u33,u34,u35,u36,u37,u38,u39,u40,u41,u42,u43,u44,u45,u46,u47,u48,u49,u50,u51,u52,u53,u54,u55,u56,u57,u58,u59,u60,u61,u62,u63,u64,u65,u66,u67,u68,u69,u70,u71,u72,u73,u74,u75,u76,u77,u78,u79,u80,u81,u82,u83,u84,u85,u86,u87,u88,u89,u90,u91,u92,u93,u94,u95,u96,u97,u98,u99,u100,u101,u102,u103,u104,u105,u106,u107,u108,u109,u110,u111,u112,u113,u114,u115,u116,u117,u118,u119,u120,u121,u122,u123,u124,u125,u126,u127,u128,u129,u130,u131,u132,u133,u134,u135,u136,u137,u138,u139,u140,u141,u142,u143,u144,u145,u146,u147,u148,u149,u150,u151,u152,u153,u154,u155,u156,u157,u158,u159,u160,u161,u162,u163,u164,u165,u166,u167,u168,u169,u170,u171,u172,u173,u174,u175,u176,u177,u178,u179,u180,u181,u182,u183,u184,u185,u186,u187,u188,u189,u190,u191,u192,u193,u194,u195,u196,u197,u198,u199,u200,u201,u202,u203,u204,u205,u206,u207,u208,u209,u210,u211,u212,u213,u214,u215,u216,u217,u218,u219,u220,u221,u222,u223,u224,u225,u226,u227,u228,u229,u230,u231,u232,u233,u234,u235,u236,u237,u238,u239,u240,u241,u242,u243,u244,u245,u246,u247,u248,u249,u250,u251,u252,u253,u254,u255,u256,u257,u258,u259,u260,u261,u262,u263,u264,u265,u266,u267,u268,u269,u270,u271,u272,u273,u274,u275,u276,u277,u278,u279,u280,u281,u282,u283,u284,u285,u286,u287,u288,u289,u290,u291,u292,u293,u294,u295,u296,u297],[]⟩ w:=by
 have e0:(er == 0)=false:=by simpa using hne
 have e1:(er != 0)=true:=by simpa using hne
 have HC:=Lib.hid C;have HS:=Lib.hid sn;have HE:=Lib.hid hE;have HN:=Lib.hid hne;clear C sn hE hne
 conv => arg 2;whnf
 refine wp_seq_k (fun K hK => ?_)
 have HK:=Lib.hid hK;clear hK
 go_wp2
 exact HK.out _ _ (te55 HC.out HS.out HN.out HE.out)
set_option maxHeartbeats 4000000 in
theorem te51 {wa W1 wr:World} {bs:List UInt8} {a N c b0 o0:Nat} {s:RS} {vo:Value} {xs:List MP} {vg:Value} {q:Option Addr} {qn qd:Nat} {nm lk:List UInt8} {hx hl hk:Bool} {h:HeadV} {w:World} {er:Int} {u0 u1 u2 u4 u5 u6 u7 u8 u9 u10 u11 u13 u14 u15 u17 u18 u19 u20 u21 u22 u23 u24 u25 u26 u27 u28 u29 u30 u31 u32 u33 u34 u35 u36 u37 u38 u39 u40 u41 u42 u43 u44 u45 u46 u47 u48 u49 u50 u51 u52 u53 u54 u55 u56 u57 u58 u59 u60 u61 u62 u63 u64 u65 u66 u67 u68 u69 u70 u71 u72 u73 u74 u75 u76 u77 u78 u79 u80 u81 u82 u83 u84 u85 u86 u87 u88 u89 u90 u91 u92 u93 u94 u95 u96 u97 u98 u99 u100 u101 u102 u103 u104 u105 u106 u107 u108 u109 u110 u111 u112 u113 u114 u115 u116 u117 u118 u119 u120 u121 u122 u123 u124 u125 u126 u127 u128 u129 u130 u131 u132 u133 u134 u135 u136 u137 u138 u139 u140 u141 u142 u143 u144 u145 u146 u147 u148 u149 u150 u151 u152 u153 u154 u155 u156 u157 u158 u159 u160 u161 u162 u163 u164 u165 u166 u167 u168 u169 u170 u171 u172 u173 u174 u175 u176 u177 u178 u179 u180 u181 u182 u183 u184 u185 u186 u187 u188 u189 u190 u191 u192 u193 u194 u195 u196 u197 u198 u199 u200 u201 u202 u203 u204 u205 u206 u207 u208 u209 u210 u211 u212 u213 u214 u215 u216 u217 u218 u219 u220 u221 u222 u223 u224 u225 u226 u227 u228 u229 u230 u231 u232 u233 u234 u235 u236 u237 u238 u239 u240 u241 u242 u243 u244 u245 u246 u247 u248 u249 u250 u251 u252 u253 u254 u255 u256 u257 u258 u259 u260 u261 u262 u263 u264 u265 u266 u267 u268 u269 u270 u271 u272 u273 u274 u275 u276 u277 u278 u279 u280 u281 u282 u283 u284 u285 u286 u287 u288 u289 u290 u291 u292 u293 u294 u295 u296 u297:Value} {Q:Exit → Act → World → Prop} (C:MC wa W1 wr bs a N c b0 o0 s vo xs vg q qn qd nm lk hx hl hk h) (sn:Below wr.heap.size wr w) (hne:er≠0) (hE:RetOk wa a Q er):Code.wp Tryz.prog (tailC 51) Q ⟨#[u0,u1,u2,.pointer (some ⟨wa.heap.size,0,none⟩),u4,u5,u6,u7,u8,u9,u10,u11,.int .i64 (a:Int),u13,u14,u15,.int .i64 er,u17,u18,u19,u20,u21,u22,u23,u24,u25,u26,u27,u28,u29,u30,u31,u32,u33,u34,u35,u36,u37,u38,u39,u40,u41,u42,u43,u44,u45,u46,u47,u48,u49,u50,u51,u52,u53,u54,u55,u56,u57,u58,u59,u60,u61,u62,u63,u64,u65,u66,u67,u68,u69,u70,u71,u72,u73,u74,u75,u76,u77,u78,u79,u80,u81,u82,u83,u84,u85,u86,u87,u88,u89,u90,u91,u92,u93,u94,u95,u96,u97,u98,u99,u100,u101,u102,u103,u104,u105,u106,u107,u108,u109,u110,u111,u112,u113,u114,u115,u116,u117,u118,u119,u120,u121,u122,u123,u124,u125,u126,u127,u128,u129,u130,u131,u132,u133,u134,u135,u136,u137,u138,u139,u140,u141,u142,u143,u144,u145,u146,u147,u148,u149,u150,u151,u152,u153,u154,u155,u156,u157,u158,u159,u160,u161,u162,u163,u164,u165,u166,u167,u168,u169,u170,u171,u172,u173,u174,u175,u176,u177,u178,u179,u180,u181,u182,u183,u184,u185,u186,u187,u188,u189,u190,u191,u192,u193,u194,u195,u196,u197,u198,u199,u200,u201,u202,u203,u204,u205,u206,u207,u208,u209,u210,u211,u212,u213,u214,u215,u216,u217,u218,u219,u220,u221,u222,u223,u224,u225,u226,u227,u228,u229,u230,u231,u232,u233,u234,u235,u236,u237,u238,u239,u240,u241,u242,u243,u244,u245,u246,u247,u248,u249,u250,u251,u252,u253,u254,u255,u256,u257,u258,u259,u260,u261,u262,u263,u264,u265,u266,u267,u268,u269,u270,u271,u272,u273,u274,u275,u276,u277,u278,u279,u280,u281,u282,u283,u284,u285,u286,u287,u288,u289,u290,u291,u292,u293,u294,u295,u296,u297],[]⟩ w:=by
 have e0:(er == 0)=false:=by simpa using hne
 have e1:(er != 0)=true:=by simpa using hne
 have HC:=Lib.hid C;have HS:=Lib.hid sn;have HE:=Lib.hid hE;have HN:=Lib.hid hne;clear C sn hE hne
 conv => arg 2;whnf
 refine wp_seq_k (fun K hK => ?_)
 have HK:=Lib.hid hK;clear hK
 go_wp2
 exact HK.out _ _ (te53 HC.out HS.out HN.out HE.out)
end Go.Proofs.YtdjedimjhogdoaaGreatDoor.Mem
end
