/- Texts of this seat, merged: what the proof reaches. -/
import Derived.Test.YtdjedimjhogdoaaGreatDoorMemberReadsX32
import Derived.Test.YtdjedimjhogdoaaGreatDoorMemberReadsX29
import Derived.Test.YtdjedimjhogdoaaGreatDoorMemberReadsX11
import Derived.StillTailTactics
import Derived.Test.YtdjedimjhogdoaaGreatDoorMemberReadsX23
section
namespace Go.Proofs.YtdjedimjhogdoaaGreatDoor.Mem
open Go.ChangeShapes Go.WideShapes Go.ChangeAt Go.RowKit Base Byt Txt Bk Hp Head Num Path Block Attr Rec Go.Lib
set_option linter.unusedVariables false
set_option linter.unusedSectionVars false
set_option maxRecDepth 1000000
set_option maxHeartbeats 8000000 in
theorem mt65 {wa W1 wr:World} {bs:List UInt8} {a N c b0 o0:Nat} {s:RS} {vo:Value} {xs:List MP} {vg:Value} {q:Option Addr} {qn qd:Nat} {nm lk:List UInt8} {hx hl hk:Bool} {h:HeadV} {w:World} {g gm:Nat} {h1:HeadV} {pt tg:List UInt8} {u1 u2 u6 u7 u8 u9 u10 u11 u13 u17 u18 u19 u20 u21 u23 u24 u25 u26 u27 u28 u29 u30 u31 u32 u33 u34 u35 u36 u37 u38 u39 u40 u41 u42 u43 u44 u45 u46 u47 u48 u49 u50 u51 u52 u53 u54 u55 u56 u57 u58 u59 u60 u61 u62 u63 u64 u65 u66 u67 u68 u69 u70 u71 u72 u73 u74 u75 u76 u77 u78 u79 u80 u81 u82 u83 u84 u85 u86 u87 u88 u89 u90 u91 u92 u93 u94 u95 u96 u97 u98 u99 u100 u101 u102 u103 u104 u105 u106 u107 u108 u109 u110 u111 u112 u113 u114 u115 u116 u117 u118 u119 u120 u121 u122 u123 u124 u125 u126 u127 u128 u129 u130 u131 u132 u133 u134 u135 u136 u137 u138 u139 u140 u141 u142 u143 u144 u145 u146 u147 u148 u149 u150 u151 u152 u153 u154 u155 u156 u157 u158 u159 u160 u161 u162 u163 u164 u165 u166 u167 u168 u169 u170 u171 u172 u173 u174 u175 u176 u177 u178 u179 u180 u181 u182 u183 u184 u185 u186 u187 u188 u189 u190 u191 u192 u193 u194 u195 u196 u197 u198 u199 u200 u201 u202 u203 u204 u205 u206 u207 u208 u209 u210 u211 u212 u213 u214 u215 u216 u217 u218 u219 u220 u221 u222 u223 u224 u225 u226 u227 u228 u229 u230 u231 u232 u233 u234 u235 u236 u237 u238 u239 u240 u241 u242 u243 u244 u245 u246 u247 u248 u249 u250 u251 u252 u253 u254 u255 u256 u257 u258 u259 u260 u261 u262 u263 u264 u265 u266 u267 u268 u269 u270 u271 u272 u273 u274 u275 u276 u277 u278 u279 u280 u281 u282 u283 u284 u285 u286 u287 u288 u289 u290 u291 u292 u293 u294 u295 u296 u297:Value} {Q:Exit → Act → World → Prop} (C:MC wa W1 wr bs a N c b0 o0 s vo xs vg q qn qd nm lk hx hl hk h) (M:MM wr w g gm h1 pt tg) (hmo:memOf h s=.ok (⟨pt,tg,h1.kind,h1.mode,h1.uid,h1.gid,h1.time,[]⟩,h1.size)) (h0:0≤h1.size) (hsm:h1.size≤1048576) (hret:RetAll wa a bs s Q) (hnext:NextAll wa W1 bs a N c (some ⟨b0,o0,none⟩) Q .normal):Code.wp Tryz.prog (tailC 65) Q ⟨#[.slice (some ⟨b0,o0,none⟩) N c,u1,u2,.pointer (some ⟨wa.heap.size,0,none⟩),vo,vg,u6,u7,u8,u9,u10,u11,.int .i64 (a:Int),u13,.int .i64 ((a:Int)+512),.pointer (some ⟨g,0,none⟩),.int .i64 0,u17,u18,u19,u20,u21,.pointer (some ⟨gm,0,none⟩),u23,u24,u25,u26,u27,u28,u29,u30,u31,u32,u33,u34,u35,u36,u37,u38,u39,u40,u41,u42,u43,u44,u45,u46,u47,u48,u49,u50,u51,u52,u53,u54,u55,u56,u57,u58,u59,u60,u61,u62,u63,u64,u65,u66,u67,u68,u69,u70,u71,u72,u73,u74,u75,u76,u77,u78,u79,u80,u81,u82,u83,u84,u85,u86,u87,u88,u89,u90,u91,u92,u93,u94,u95,u96,u97,u98,u99,u100,u101,u102,u103,u104,u105,u106,u107,u108,u109,u110,u111,u112,u113,u114,u115,u116,u117,u118,u119,u120,u121,u122,u123,u124,u125,u126,u127,u128,u129,u130,u131,u132,u133,u134,u135,u136,u137,u138,u139,u140,u141,u142,u143,u144,u145,u146,u147,u148,u149,u150,u151,u152,u153,u154,u155,u156,u157,u158,u159,u160,u161,u162,u163,u164,u165,u166,u167,u168,u169,u170,u171,u172,u173,u174,u175,u176,u177,u178,u179,u180,u181,u182,u183,u184,u185,u186,u187,u188,u189,u190,u191,u192,u193,u194,u195,u196,u197,u198,u199,u200,u201,u202,u203,u204,u205,u206,u207,u208,u209,u210,u211,u212,u213,u214,u215,u216,u217,u218,u219,u220,u221,u222,u223,u224,u225,u226,u227,u228,u229,u230,u231,u232,u233,u234,u235,u236,u237,u238,u239,u240,u241,u242,u243,u244,u245,u246,u247,u248,u249,u250,u251,u252,u253,u254,u255,u256,u257,u258,u259,u260,u261,u262,u263,u264,u265,u266,u267,u268,u269,u270,u271,u272,u273,u274,u275,u276,u277,u278,u279,u280,u281,u282,u283,u284,u285,u286,u287,u288,u289,u290,u291,u292,u293,u294,u295,u296,u297],[]⟩ w:=by
 have HC:=Lib.hid C;have HM:=Lib.hid M;have HRET:=Lib.hid hret;have HNX:=Lib.hid hnext;clear C M hret hnext;obtain ⟨i0,hi,hz0,hz1,hz2⟩:=info_parts infoU8;have HI:=Lib.hid hi;have HZ0:=Lib.hid hz0;have HZ1:=Lib.hid hz1;have HZ2:=Lib.hid hz2;obtain ⟨sz,hsz⟩:∃ sz:Nat,h1.size=(sz:Int):=⟨h1.size.toNat,by omega⟩
 have c7:w.cell? ⟨g,7,none⟩=some (.int .i64 (sz:Int)):=by rw [← hsz];exact HM.out.head.cell 7
 have hsz2:sz≤1048576:=by omega
 have HMO:=Lib.hid hmo;have HSZ:=Lib.hid hsz;clear hi hz0 hz1 hz2 hmo hsz h0 hsm;have hN:=HC.out.hN;have hNc:=HC.out.hc;have haN:=HC.out.ha;have hby:=rbody_any (some ⟨b0,o0,none⟩) N c bs w (a+512) (sz:Int) HC.out.len (by omega) hNc (by have:=HC.out.hcm;unfold maxLen;omega) (HC.out.bat.below HM.out.sn) (by omega) (by omega) (by omega)
 rw [show ((a+512:Nat):Int)=(a:Int)+512 by omega] at hby
 have HBY:=Lib.hid hby;clear hby
 conv => arg 2;whnf
 refine wp_seq_k (fun K hK => ?_)
 go_wp2_with fail
 refine HBY.out.mono ?_
 clear HBY;rintro e wz ⟨rfl,(⟨hno,rfl⟩ | ⟨hle,hbl,q1,d1,rfl,hqd,hdm,hbt⟩)⟩
 ·have E:Hid (stepD (bs.drop a) s=.fault 2):=Lib.hid (by
   rw [HC.out.step];refine md_short HC.out.full HC.out.kind HMO.out (body_none ?_);rw [HSZ.out,List.length_drop,HC.out.len];rcases hno with hno | hno
   ·exact .inl hno
   ·exact .inr (by omega))
  clear hno;obtain ⟨r0,r1,f0,f1⟩:=box_at HC.out.box HM.out.sn
  go_wp2
  exact ret_at (HRET.out 2 E.out) HC.out.box HC.out.b1 HC.out.rd.bel HM.out.sn _ rfl rfl
 ·simp only [Int.toNat_natCast] at hbl hqd hbt ⊢
  obtain ⟨T,hT⟩:∃ T,(bs.drop (a+512)).take sz=T:=⟨_,rfl⟩;have hbg:=(blocks_ge sz).1
  have HBS:Hid (bodyN (bs.drop a) h1.size=some (T,512+blocksOf sz)):=Lib.hid (by
   have:=body_some (L:=bs.drop a) (n:=h1.size) (by rw [HSZ.out];exact hle) (by rw [HSZ.out,List.length_drop,HC.out.len,Int.toNat_natCast];omega)
   rw [this,HSZ.out,Int.toNat_natCast,List.drop_drop,hT])
  have hTl:T.length=sz:=by rw [← hT,List.length_take,List.length_drop,HC.out.len];omega
  rw [hT] at hbt
  have HST:Hid (stepD (bs.drop a) s=.next (512+blocksOf sz) { s with out:=s.out++[⟨pt,tg,h1.kind,h1.mode,h1.uid,h1.gid,h1.time,T⟩],own:=[],name:=none,link:=none,hasX:=false }):=Lib.hid (by
   rw [HC.out.step];exact md_ok HC.out.full HC.out.kind HMO.out HBS.out)
  obtain ⟨tu,hto⟩:∃ tu,a+512+blocksOf sz=tu:=⟨_,rfl⟩;rw [hto];have HTO:Hid (tu=a+(512+blocksOf sz)):=Lib.hid (by omega)
  have HBT:=Lib.hid hbt;have HTL:=Lib.hid hTl;clear hbl hbt hT hTl hto hle hdm hbg HBS
  go_wp2_with (at_builtin;refine append_bytes rfl _ _ 22 rfl w.heap.size 5 i0 Tryz.underlying22 HI.out HZ0.out HZ1.out HZ2.out _ 0 [] rfl (World.ownsRow_made w #[] 0 (Nat.le_refl _) (by decide) rfl) q1 sz d1 T rfl (HBT.out.alloc _) HTL.out ?d2 ?d3 ?_)
  case d2 => omega
  case d3 => simp
  intro v2 w2 hown hgrow;have ho2:OwnB w2 w.heap.size v2 sz T:=by simpa [OwnB] using hown
  have hk2:Kept noneB w w2:=(((Kept.refl noneB w).alloc _)).grown hgrow (by intro k hk;simp [Value.ownBlock] at hk;omega)
  have h12:Below w.heap.size w w2:=hk2.below (Nat.le_refl _) (fun _ h => h.elim)
  obtain ⟨p2,c2,rfl,hle2,hmx2,hb2,_,hat2⟩:=ho2.slice;have hM2:=HM.out.below h12;have y7:=hM2.mem.cell 7;have f7:=hM2.mem.frozen 7;simp only [List.getElem?_toArray,List.getElem?_cons_zero,List.getElem?_cons_succ] at y7;have HM2:=Lib.hid hM2;have HB2:=Lib.hid hb2;have HAT:=Lib.hid hat2;clear hown hgrow ho2 hk2 h12 hb2 hat2 hM2 c7
  go_upto_region 69 with fail
  obtain ⟨w3,hw⟩:∃ w3,w2.setCell ⟨gm,7,none⟩ (.slice p2 sz c2)=w3:=⟨_,rfl⟩;have hX:Blk w3 gm 37 #[.string (str pt),.string (str tg),.int .u8 (h1.kind.toNat:Int),.int .i64 h1.mode,.int .i64 h1.uid,.int .i64 h1.gid,.int .i64 h1.time,.slice p2 sz c2]:=by rw [← hw];exact HM2.out.mem.set 7 _ (by decide:7 < 8)
  have hk3:Kept (oneB gm) w2 w3:=by rw [← hw];exact (Kept.refl (oneB gm) w2).setCell (a:=⟨gm,7,none⟩) (.inr rfl) _
  have hb3:BAt w3 p2 sz T:=HB2.out.kept hk3 (fun _ y hy e => by
   have h1:=(HAT.out y hy).1;have h2:y.block=gm:=e;have h3:=HM.out.mem.lt
   omega)
  have hS3:Below wr.heap.size wr w3:=by rw [← hw];exact HM2.out.sn.setCell (p:=⟨gm,7,none⟩) HM.out.gge _
  have z0:=hX.cell 0;have z1:=hX.cell 1;have z2:=hX.cell 2;have z3:=hX.cell 3;have z4:=hX.cell 4;have z5:=hX.cell 5;have z6:=hX.cell 6;have z7:=hX.cell 7;simp only [List.getElem?_toArray,List.getElem?_cons_zero,List.getElem?_cons_succ] at z0 z1 z2 z3 z4 z5 z6 z7;rw [hw];have HR3:=Lib.hid (HC.out.rd.below hS3)
  have HBY:Hid (BodyAt w3 ⟨⟨pt,tg,h1.kind,h1.mode,h1.uid,h1.gid,h1.time,T⟩,p2,c2⟩):=Lib.hid (by
   refine ⟨?_,?_,hmx2⟩
   ·show BAt w3 p2 T.length T
    rw [HTL.out];exact hb3
   ·show T.length≤c2
    rw [HTL.out];exact hle2)
  have HOFF:Hid (0 < T.length → ∀ z,p2=some z → vo.ownBlock≠some z.block∧vg.ownBlock≠some z.block):=Lib.hid (fun _ z hz => by
   have h1:=(HAT.out z hz).1;have h3:=HM.out.sn.size
   exact ⟨fun e => by have h2:=(World.ownsRow.lt HC.out.rd.row _ e).2;omega,fun e => by have h2:=(World.ownsRow.lt HC.out.rd.glob _ e).2;omega⟩)
  have HNB:Hid (Blk (w3.alloc (.cells #[.string (str pt),.string (str tg),.int .u8 (h1.kind.toNat:Int),.int .i64 h1.mode,.int .i64 h1.uid,.int .i64 h1.gid,.int .i64 h1.time,.slice p2 sz c2] 37)) w3.heap.size 37 (MP.cs ⟨⟨pt,tg,h1.kind,h1.mode,h1.uid,h1.gid,h1.time,T⟩,p2,c2⟩)):=Lib.hid (by
   have:=Blk.new w3 37 #[.string (str pt),.string (str tg),.int .u8 (h1.kind.toNat:Int),.int .i64 h1.mode,.int .i64 h1.uid,.int .i64 h1.gid,.int .i64 h1.time,.slice p2 sz c2];unfold MP.cs memC;simp only [HTL.out]
   exact this)
  have HFL:Hid (s.out.length < 4096):=Lib.hid (by have:=HC.out.full;omega)
  clear hw hX hk3 hb3 hS3 y7 f7
  go_wp2_with (at_builtin;refine append_member rfl _ _ rfl W1.heap.size vo xs rfl (row_below HR3.out.row ((Below.refl _ _).alloc (Nat.le_refl _) _)) w3.heap.size 1 ⟨⟨pt,tg,h1.kind,h1.mode,h1.uid,h1.gid,h1.time,T⟩,p2,c2⟩ rfl HNB.out ?e1 ?e2 ?_)
  case e1 => have h1:=HR3.out.len;have h2:=HFL.out;omega
  case e2 => have:=HR3.out.bel.size;simp;omega
  intro v4 w4 hrow hg hnw;have h34:Below w3.heap.size w3 (w3.alloc (.cells #[.string (str pt),.string (str tg),.int .u8 (h1.kind.toNat:Int),.int .i64 h1.mode,.int .i64 h1.uid,.int .i64 h1.gid,.int .i64 h1.time,.slice p2 sz c2] 37)):=(Below.refl _ _).alloc (Nat.le_refl _) _;rw [show xs.length+1=(xs++[(⟨⟨pt,tg,h1.kind,h1.mode,h1.uid,h1.gid,h1.time,T⟩,p2,c2⟩:MP)]).length by simp] at hrow
  have HR4:=Lib.hid ((HR3.out.below h34).nextM (k:=512+blocksOf sz) (y:=⟨⟨pt,tg,h1.kind,h1.mode,h1.uid,h1.gid,h1.time,T⟩,p2,c2⟩) HST.out HFL.out (HBY.out.below h34) HOFF.out hrow hg hnw);rw [← HTO.out] at HR4;clear hrow hg hnw h34 z0 z1 z2 z3 z4 z5 z6 z7
  go_wp2
  exact HNX.out _ _ tu _ _ _ _ none 0 0 ⟨#[]⟩ ⟨#[]⟩ false false false HR4.out (by have:=HTO.out;omega) (by have:=HTO.out;have:=(HC.out.rd.next_le HST.out).1;have:=HC.out.len;omega) rfl rfl rfl rfl rfl rfl rfl rfl rfl rfl rfl rfl
set_option maxHeartbeats 4000000 in
theorem mt63 {wa W1 wr:World} {bs:List UInt8} {a N c b0 o0:Nat} {s:RS} {vo:Value} {xs:List MP} {vg:Value} {q:Option Addr} {qn qd:Nat} {nm lk:List UInt8} {hx hl hk:Bool} {h:HeadV} {w:World} {g gm:Nat} {h1:HeadV} {pt tg:List UInt8} {u1 u2 u6 u7 u8 u9 u10 u11 u13 u17 u18 u19 u20 u21 u23 u24 u25 u26 u27 u28 u29 u30 u31 u32 u33 u34 u35 u36 u37 u38 u39 u40 u41 u42 u43 u44 u45 u46 u47 u48 u49 u50 u51 u52 u53 u54 u55 u56 u57 u58 u59 u60 u61 u62 u63 u64 u65 u66 u67 u68 u69 u70 u71 u72 u73 u74 u75 u76 u77 u78 u79 u80 u81 u82 u83 u84 u85 u86 u87 u88 u89 u90 u91 u92 u93 u94 u95 u96 u97 u98 u99 u100 u101 u102 u103 u104 u105 u106 u107 u108 u109 u110 u111 u112 u113 u114 u115 u116 u117 u118 u119 u120 u121 u122 u123 u124 u125 u126 u127 u128 u129 u130 u131 u132 u133 u134 u135 u136 u137 u138 u139 u140 u141 u142 u143 u144 u145 u146 u147 u148 u149 u150 u151 u152 u153 u154 u155 u156 u157 u158 u159 u160 u161 u162 u163 u164 u165 u166 u167 u168 u169 u170 u171 u172 u173 u174 u175 u176 u177 u178 u179 u180 u181 u182 u183 u184 u185 u186 u187 u188 u189 u190 u191 u192 u193 u194 u195 u196 u197 u198 u199 u200 u201 u202 u203 u204 u205 u206 u207 u208 u209 u210 u211 u212 u213 u214 u215 u216 u217 u218 u219 u220 u221 u222 u223 u224 u225 u226 u227 u228 u229 u230 u231 u232 u233 u234 u235 u236 u237 u238 u239 u240 u241 u242 u243 u244 u245 u246 u247 u248 u249 u250 u251 u252 u253 u254 u255 u256 u257 u258 u259 u260 u261 u262 u263 u264 u265 u266 u267 u268 u269 u270 u271 u272 u273 u274 u275 u276 u277 u278 u279 u280 u281 u282 u283 u284 u285 u286 u287 u288 u289 u290 u291 u292 u293 u294 u295 u296 u297:Value} {Q:Exit → Act → World → Prop} (C:MC wa W1 wr bs a N c b0 o0 s vo xs vg q qn qd nm lk hx hl hk h) (M:MM wr w g gm h1 pt tg) (hmo:memOf h s=.ok (⟨pt,tg,h1.kind,h1.mode,h1.uid,h1.gid,h1.time,[]⟩,h1.size)) (h0:0≤h1.size) (hsm:h1.size≤1048576) (hret:RetAll wa a bs s Q) (hnext:NextAll wa W1 bs a N c (some ⟨b0,o0,none⟩) Q .normal):Code.wp Tryz.prog (tailC 63) Q ⟨#[.slice (some ⟨b0,o0,none⟩) N c,u1,u2,.pointer (some ⟨wa.heap.size,0,none⟩),vo,vg,u6,u7,u8,u9,u10,u11,.int .i64 (a:Int),u13,.int .i64 ((a:Int)+512),.pointer (some ⟨g,0,none⟩),.int .i64 0,u17,u18,u19,u20,u21,.pointer (some ⟨gm,0,none⟩),u23,u24,u25,u26,u27,u28,u29,u30,u31,u32,u33,u34,u35,u36,u37,u38,u39,u40,u41,u42,u43,u44,u45,u46,u47,u48,u49,u50,u51,u52,u53,u54,u55,u56,u57,u58,u59,u60,u61,u62,u63,u64,u65,u66,u67,u68,u69,u70,u71,u72,u73,u74,u75,u76,u77,u78,u79,u80,u81,u82,u83,u84,u85,u86,u87,u88,u89,u90,u91,u92,u93,u94,u95,u96,u97,u98,u99,u100,u101,u102,u103,u104,u105,u106,u107,u108,u109,u110,u111,u112,u113,u114,u115,u116,u117,u118,u119,u120,u121,u122,u123,u124,u125,u126,u127,u128,u129,u130,u131,u132,u133,u134,u135,u136,u137,u138,u139,u140,u141,u142,u143,u144,u145,u146,u147,u148,u149,u150,u151,u152,u153,u154,u155,u156,u157,u158,u159,u160,u161,u162,u163,u164,u165,u166,u167,u168,u169,u170,u171,u172,u173,u174,u175,u176,u177,u178,u179,u180,u181,u182,u183,u184,u185,u186,u187,u188,u189,u190,u191,u192,u193,u194,u195,u196,u197,u198,u199,u200,u201,u202,u203,u204,u205,u206,u207,u208,u209,u210,u211,u212,u213,u214,u215,u216,u217,u218,u219,u220,u221,u222,u223,u224,u225,u226,u227,u228,u229,u230,u231,u232,u233,u234,u235,u236,u237,u238,u239,u240,u241,u242,u243,u244,u245,u246,u247,u248,u249,u250,u251,u252,u253,u254,u255,u256,u257,u258,u259,u260,u261,u262,u263,u264,u265,u266,u267,u268,u269,u270,u271,u272,u273,u274,u275,u276,u277,u278,u279,u280,u281,u282,u283,u284,u285,u286,u287,u288,u289,u290,u291,u292,u293,u294,u295,u296,u297],[]⟩ w:=by
 have HC:=Lib.hid C;have HM:=Lib.hid M;have HRET:=Lib.hid hret;have HNX:=Lib.hid hnext;clear C M hret hnext;have HMO:=Lib.hid hmo;clear hmo
 conv => arg 2;whnf
 refine wp_seq_k (fun K hK => ?_)
 have HK:=Lib.hid hK;clear hK
 go_wp2
 exact HK.out _ _ (mt65 HC.out HM.out HMO.out h0 hsm HRET.out HNX.out)
set_option maxHeartbeats 4000000 in
theorem mt61 {wa W1 wr:World} {bs:List UInt8} {a N c b0 o0:Nat} {s:RS} {vo:Value} {xs:List MP} {vg:Value} {q:Option Addr} {qn qd:Nat} {nm lk:List UInt8} {hx hl hk:Bool} {h:HeadV} {w:World} {g gm:Nat} {h1:HeadV} {u1 u2 u6 u7 u8 u9 u10 u11 u13 u17 u18 u19 u20 u21 u23 u24 u25 u26 u27 u28 u29 u30 u31 u32 u33 u34 u35 u36 u37 u38 u39 u40 u41 u42 u43 u44 u45 u46 u47 u48 u49 u50 u51 u52 u53 u54 u55 u56 u57 u58 u59 u60 u61 u62 u63 u64 u65 u66 u67 u68 u69 u70 u71 u72 u73 u74 u75 u76 u77 u78 u79 u80 u81 u82 u83 u84 u85 u86 u87 u88 u89 u90 u91 u92 u93 u94 u95 u96 u97 u98 u99 u100 u101 u102 u103 u104 u105 u106 u107 u108 u109 u110 u111 u112 u113 u114 u115 u116 u117 u118 u119 u120 u121 u122 u123 u124 u125 u126 u127 u128 u129 u130 u131 u132 u133 u134 u135 u136 u137 u138 u139 u140 u141 u142 u143 u144 u145 u146 u147 u148 u149 u150 u151 u152 u153 u154 u155 u156 u157 u158 u159 u160 u161 u162 u163 u164 u165 u166 u167 u168 u169 u170 u171 u172 u173 u174 u175 u176 u177 u178 u179 u180 u181 u182 u183 u184 u185 u186 u187 u188 u189 u190 u191 u192 u193 u194 u195 u196 u197 u198 u199 u200 u201 u202 u203 u204 u205 u206 u207 u208 u209 u210 u211 u212 u213 u214 u215 u216 u217 u218 u219 u220 u221 u222 u223 u224 u225 u226 u227 u228 u229 u230 u231 u232 u233 u234 u235 u236 u237 u238 u239 u240 u241 u242 u243 u244 u245 u246 u247 u248 u249 u250 u251 u252 u253 u254 u255 u256 u257 u258 u259 u260 u261 u262 u263 u264 u265 u266 u267 u268 u269 u270 u271 u272 u273 u274 u275 u276 u277 u278 u279 u280 u281 u282 u283 u284 u285 u286 u287 u288 u289 u290 u291 u292 u293 u294 u295 u296 u297:Value} {Q:Exit → Act → World → Prop} (C:MC wa W1 wr bs a N c b0 o0 s vo xs vg q qn qd nm lk hx hl hk h) (M:MM wr w g gm h1 (cleanD 9 6 h1.name).1 (targetOf h1)) (ha:IsApplied h s h1 0) (h0:(cleanD 9 6 h1.name).2=0) (h2:metaOk h1.mode h1.uid h1.gid h1.time=true) (h3:LinkOk h1) (h4:¬ (h1.kind≠48∧h1.size≠0)) (h5:0≤h1.size) (hret:RetAll wa a bs s Q) (hnext:NextAll wa W1 bs a N c (some ⟨b0,o0,none⟩) Q .normal):Code.wp Tryz.prog (tailC 61) Q ⟨#[.slice (some ⟨b0,o0,none⟩) N c,u1,u2,.pointer (some ⟨wa.heap.size,0,none⟩),vo,vg,u6,u7,u8,u9,u10,u11,.int .i64 (a:Int),u13,.int .i64 ((a:Int)+512),.pointer (some ⟨g,0,none⟩),.int .i64 0,u17,u18,u19,u20,u21,.pointer (some ⟨gm,0,none⟩),u23,u24,u25,u26,u27,u28,u29,u30,u31,u32,u33,u34,u35,u36,u37,u38,u39,u40,u41,u42,u43,u44,u45,u46,u47,u48,u49,u50,u51,u52,u53,u54,u55,u56,u57,u58,u59,u60,u61,u62,u63,u64,u65,u66,u67,u68,u69,u70,u71,u72,u73,u74,u75,u76,u77,u78,u79,u80,u81,u82,u83,u84,u85,u86,u87,u88,u89,u90,u91,u92,u93,u94,u95,u96,u97,u98,u99,u100,u101,u102,u103,u104,u105,u106,u107,u108,u109,u110,u111,u112,u113,u114,u115,u116,u117,u118,u119,u120,u121,u122,u123,u124,u125,u126,u127,u128,u129,u130,u131,u132,u133,u134,u135,u136,u137,u138,u139,u140,u141,u142,u143,u144,u145,u146,u147,u148,u149,u150,u151,u152,u153,u154,u155,u156,u157,u158,u159,u160,u161,u162,u163,u164,u165,u166,u167,u168,u169,u170,u171,u172,u173,u174,u175,u176,u177,u178,u179,u180,u181,u182,u183,u184,u185,u186,u187,u188,u189,u190,u191,u192,u193,u194,u195,u196,u197,u198,u199,u200,u201,u202,u203,u204,u205,u206,u207,u208,u209,u210,u211,u212,u213,u214,u215,u216,u217,u218,u219,u220,u221,u222,u223,u224,u225,u226,u227,u228,u229,u230,u231,u232,u233,u234,u235,u236,u237,u238,u239,u240,u241,u242,u243,u244,u245,u246,u247,u248,u249,u250,u251,u252,u253,u254,u255,u256,u257,u258,u259,u260,u261,u262,u263,u264,u265,u266,u267,u268,u269,u270,u271,u272,u273,u274,u275,u276,u277,u278,u279,u280,u281,u282,u283,u284,u285,u286,u287,u288,u289,u290,u291,u292,u293,u294,u295,u296,u297],[]⟩ w:=by
 have HC:=Lib.hid C;have HM:=Lib.hid M;have HRET:=Lib.hid hret;have HNX:=Lib.hid hnext;clear C M hret hnext;have c7:=HM.out.head.cell 7;unfold headC at c7;simp only [List.getElem?_toArray,List.getElem?_cons_zero,List.getElem?_cons_succ] at c7;have HA:=Lib.hid ha;have H0:=Lib.hid h0;have H2:=Lib.hid h2;have H3:=Lib.hid h3;have H4:=Lib.hid h4;have H5:=Lib.hid h5;clear ha h0 h2 h3 h4 h5
 conv => arg 2;whnf
 refine wp_seq_k (fun K hK => ?_)
 have HK:=Lib.hid hK;clear hK
 by_cases hlg:1048576 < h1.size
 ·have HL:=Lib.hid hlg
  go_wp2
  exact HK.out _ _ (te63 HC.out HM.out.sn (by decide) (HRET.out 10 (by rw [HC.out.step];exact md_err HC.out.full HC.out.kind (mo_large HA.out H0.out H2.out H3.out H4.out HL.out))))
 ·have HL:=Lib.hid hlg
  go_wp2
  exact HK.out _ _ (mt63 HC.out HM.out (mo_ok HA.out H0.out H2.out H3.out H4.out (by have:=HL.out;omega)) H5.out (by have:=HL.out;omega) HRET.out HNX.out)
set_option maxHeartbeats 4000000 in
theorem mt59 {wa W1 wr:World} {bs:List UInt8} {a N c b0 o0:Nat} {s:RS} {vo:Value} {xs:List MP} {vg:Value} {q:Option Addr} {qn qd:Nat} {nm lk:List UInt8} {hx hl hk:Bool} {h:HeadV} {w:World} {g gm:Nat} {h1:HeadV} {u1 u2 u6 u7 u8 u9 u10 u11 u13 u17 u18 u19 u20 u21 u23 u24 u25 u26 u27 u28 u29 u30 u31 u32 u33 u34 u35 u36 u37 u38 u39 u40 u41 u42 u43 u44 u45 u46 u47 u48 u49 u50 u51 u52 u53 u54 u55 u56 u57 u58 u59 u60 u61 u62 u63 u64 u65 u66 u67 u68 u69 u70 u71 u72 u73 u74 u75 u76 u77 u78 u79 u80 u81 u82 u83 u84 u85 u86 u87 u88 u89 u90 u91 u92 u93 u94 u95 u96 u97 u98 u99 u100 u101 u102 u103 u104 u105 u106 u107 u108 u109 u110 u111 u112 u113 u114 u115 u116 u117 u118 u119 u120 u121 u122 u123 u124 u125 u126 u127 u128 u129 u130 u131 u132 u133 u134 u135 u136 u137 u138 u139 u140 u141 u142 u143 u144 u145 u146 u147 u148 u149 u150 u151 u152 u153 u154 u155 u156 u157 u158 u159 u160 u161 u162 u163 u164 u165 u166 u167 u168 u169 u170 u171 u172 u173 u174 u175 u176 u177 u178 u179 u180 u181 u182 u183 u184 u185 u186 u187 u188 u189 u190 u191 u192 u193 u194 u195 u196 u197 u198 u199 u200 u201 u202 u203 u204 u205 u206 u207 u208 u209 u210 u211 u212 u213 u214 u215 u216 u217 u218 u219 u220 u221 u222 u223 u224 u225 u226 u227 u228 u229 u230 u231 u232 u233 u234 u235 u236 u237 u238 u239 u240 u241 u242 u243 u244 u245 u246 u247 u248 u249 u250 u251 u252 u253 u254 u255 u256 u257 u258 u259 u260 u261 u262 u263 u264 u265 u266 u267 u268 u269 u270 u271 u272 u273 u274 u275 u276 u277 u278 u279 u280 u281 u282 u283 u284 u285 u286 u287 u288 u289 u290 u291 u292 u293 u294 u295 u296 u297:Value} {Q:Exit → Act → World → Prop} (C:MC wa W1 wr bs a N c b0 o0 s vo xs vg q qn qd nm lk hx hl hk h) (M:MM wr w g gm h1 (cleanD 9 6 h1.name).1 (targetOf h1)) (ha:IsApplied h s h1 0) (h0:(cleanD 9 6 h1.name).2=0) (h2:metaOk h1.mode h1.uid h1.gid h1.time=true) (h3:LinkOk h1) (h5:0≤h1.size) (hret:RetAll wa a bs s Q) (hnext:NextAll wa W1 bs a N c (some ⟨b0,o0,none⟩) Q .normal):Code.wp Tryz.prog (tailC 59) Q ⟨#[.slice (some ⟨b0,o0,none⟩) N c,u1,u2,.pointer (some ⟨wa.heap.size,0,none⟩),vo,vg,u6,u7,u8,u9,u10,u11,.int .i64 (a:Int),u13,.int .i64 ((a:Int)+512),.pointer (some ⟨g,0,none⟩),.int .i64 0,u17,u18,u19,u20,u21,.pointer (some ⟨gm,0,none⟩),u23,u24,u25,u26,u27,u28,u29,u30,u31,u32,u33,u34,u35,u36,u37,u38,u39,u40,u41,u42,u43,u44,u45,u46,u47,u48,u49,u50,u51,u52,u53,u54,u55,u56,u57,u58,u59,u60,u61,u62,u63,u64,u65,u66,u67,u68,u69,u70,u71,u72,u73,u74,u75,u76,u77,u78,u79,u80,u81,u82,u83,u84,u85,u86,u87,u88,u89,u90,u91,u92,u93,u94,u95,u96,u97,u98,u99,u100,u101,u102,u103,u104,u105,u106,u107,u108,u109,u110,u111,u112,u113,u114,u115,u116,u117,u118,u119,u120,u121,u122,u123,u124,u125,u126,u127,u128,u129,u130,u131,u132,u133,u134,u135,u136,u137,u138,u139,u140,u141,u142,u143,u144,u145,u146,u147,u148,u149,u150,u151,u152,u153,u154,u155,u156,u157,u158,u159,u160,u161,u162,u163,u164,u165,u166,u167,u168,u169,u170,u171,u172,u173,u174,u175,u176,u177,u178,u179,u180,u181,u182,u183,u184,u185,u186,u187,u188,u189,u190,u191,u192,u193,u194,u195,u196,u197,u198,u199,u200,u201,u202,u203,u204,u205,u206,u207,u208,u209,u210,u211,u212,u213,u214,u215,u216,u217,u218,u219,u220,u221,u222,u223,u224,u225,u226,u227,u228,u229,u230,u231,u232,u233,u234,u235,u236,u237,u238,u239,u240,u241,u242,u243,u244,u245,u246,u247,u248,u249,u250,u251,u252,u253,u254,u255,u256,u257,u258,u259,u260,u261,u262,u263,u264,u265,u266,u267,u268,u269,u270,u271,u272,u273,u274,u275,u276,u277,u278,u279,u280,u281,u282,u283,u284,u285,u286,u287,u288,u289,u290,u291,u292,u293,u294,u295,u296,u297],[]⟩ w:=by
 have HC:=Lib.hid C;have HM:=Lib.hid M;have HRET:=Lib.hid hret;have HNX:=Lib.hid hnext;clear C M hret hnext;have c7:=HM.out.head.cell 7;have c2:=HM.out.head.cell 2;unfold headC at c7 c2;simp only [List.getElem?_toArray,List.getElem?_cons_zero,List.getElem?_cons_succ] at c7 c2;have HA:=Lib.hid ha;have H0:=Lib.hid h0;have H2:=Lib.hid h2;have H3:=Lib.hid h3;have H5:=Lib.hid h5;clear ha h0 h2 h3 h5
 conv => arg 2;whnf
 refine wp_seq_k (fun K hK => ?_)
 have HK:=Lib.hid hK;clear hK
 by_cases hk48:h1.kind=48
 ·have c2k:w.cell? ⟨g,2,none⟩=some (.int .u8 48):=by rw [c2,hk48];rfl
  have HK4:Hid (¬ (h1.kind≠48∧h1.size≠0)):=Lib.hid (fun h => h.1 hk48)
  clear c2 hk48
  go_wp2
  exact HK.out _ _ (mt61 HC.out HM.out HA.out H0.out H2.out H3.out HK4.out H5.out HRET.out HNX.out)
 ·have n48:((h1.kind.toNat:Int) != 48)=true:=by
   simp only [bne,Bool.not_eq_true',beq_eq_false_iff_ne];intro h;exact hk48 (UInt8.toNat.inj (by simpa using (by omega:h1.kind.toNat=48)))
  by_cases hsz:h1.size=0
  ·have z0:(h1.size != 0)=false:=by simpa using hsz
   have HK4:Hid (¬ (h1.kind≠48∧h1.size≠0)):=Lib.hid (fun h => h.2 hsz)
   clear hk48 hsz
   go_wp2
   exact HK.out _ _ (mt61 HC.out HM.out HA.out H0.out H2.out H3.out HK4.out H5.out HRET.out HNX.out)
  ·have z0:(h1.size != 0)=true:=by simpa using hsz
   have HK8:=Lib.hid hk48;have HZ:=Lib.hid hsz;clear hk48 hsz
   go_wp2
   exact HK.out _ _ (te61 HC.out HM.out.sn (by decide) (HRET.out 4 (by rw [HC.out.step];exact md_err HC.out.full HC.out.kind (mo_sized HA.out H0.out H2.out H3.out HK8.out HZ.out))))
end Go.Proofs.YtdjedimjhogdoaaGreatDoor.Mem
end
section
namespace Go.Proofs.YtdjedimjhogdoaaGreatDoor.Mem
open Go.ChangeShapes Go.WideShapes Go.ChangeAt Go.RowKit Base Byt Txt Bk Hp Head Num Path Block Attr Rec Go.Lib
set_option linter.unusedVariables false
set_option linter.unusedSectionVars false
set_option maxRecDepth 1000000
set_option maxHeartbeats 4000000 in
theorem mt57 {wa W1 wr:World} {bs:List UInt8} {a N c b0 o0:Nat} {s:RS} {vo:Value} {xs:List MP} {vg:Value} {q:Option Addr} {qn qd:Nat} {nm lk:List UInt8} {hx hl hk:Bool} {h:HeadV} {w:World} {g gm:Nat} {h1:HeadV} {u1 u2 u6 u7 u8 u9 u10 u11 u13 u17 u18 u19 u20 u21 u23 u24 u25 u26 u27 u28 u29 u30 u31 u32 u33 u34 u35 u36 u37 u38 u39 u40 u41 u42 u43 u44 u45 u46 u47 u48 u49 u50 u51 u52 u53 u54 u55 u56 u57 u58 u59 u60 u61 u62 u63 u64 u65 u66 u67 u68 u69 u70 u71 u72 u73 u74 u75 u76 u77 u78 u79 u80 u81 u82 u83 u84 u85 u86 u87 u88 u89 u90 u91 u92 u93 u94 u95 u96 u97 u98 u99 u100 u101 u102 u103 u104 u105 u106 u107 u108 u109 u110 u111 u112 u113 u114 u115 u116 u117 u118 u119 u120 u121 u122 u123 u124 u125 u126 u127 u128 u129 u130 u131 u132 u133 u134 u135 u136 u137 u138 u139 u140 u141 u142 u143 u144 u145 u146 u147 u148 u149 u150 u151 u152 u153 u154 u155 u156 u157 u158 u159 u160 u161 u162 u163 u164 u165 u166 u167 u168 u169 u170 u171 u172 u173 u174 u175 u176 u177 u178 u179 u180 u181 u182 u183 u184 u185 u186 u187 u188 u189 u190 u191 u192 u193 u194 u195 u196 u197 u198 u199 u200 u201 u202 u203 u204 u205 u206 u207 u208 u209 u210 u211 u212 u213 u214 u215 u216 u217 u218 u219 u220 u221 u222 u223 u224 u225 u226 u227 u228 u229 u230 u231 u232 u233 u234 u235 u236 u237 u238 u239 u240 u241 u242 u243 u244 u245 u246 u247 u248 u249 u250 u251 u252 u253 u254 u255 u256 u257 u258 u259 u260 u261 u262 u263 u264 u265 u266 u267 u268 u269 u270 u271 u272 u273 u274 u275 u276 u277 u278 u279 u280 u281 u282 u283 u284 u285 u286 u287 u288 u289 u290 u291 u292 u293 u294 u295 u296 u297:Value} {Q:Exit → Act → World → Prop} (C:MC wa W1 wr bs a N c b0 o0 s vo xs vg q qn qd nm lk hx hl hk h) (M:MM wr w g gm h1 (cleanD 9 6 h1.name).1 (if h1.kind=49 then (cleanD 9 6 h1.link).1 else [])) (ha:IsApplied h s h1 0) (h0:(cleanD 9 6 h1.name).2=0) (h2:metaOk h1.mode h1.uid h1.gid h1.time=true) (h5:0≤h1.size) (hl:h1.link.length≤1048576) (h3a:h1.kind=49 → (cleanD 9 6 h1.link).2=0) (hret:RetAll wa a bs s Q) (hnext:NextAll wa W1 bs a N c (some ⟨b0,o0,none⟩) Q .normal):Code.wp Tryz.prog (tailC 57) Q ⟨#[.slice (some ⟨b0,o0,none⟩) N c,u1,u2,.pointer (some ⟨wa.heap.size,0,none⟩),vo,vg,u6,u7,u8,u9,u10,u11,.int .i64 (a:Int),u13,.int .i64 ((a:Int)+512),.pointer (some ⟨g,0,none⟩),.int .i64 0,u17,u18,u19,u20,u21,.pointer (some ⟨gm,0,none⟩),u23,u24,u25,u26,u27,u28,u29,u30,u31,u32,u33,u34,u35,u36,u37,u38,u39,u40,u41,u42,u43,u44,u45,u46,u47,u48,u49,u50,u51,u52,u53,u54,u55,u56,u57,u58,u59,u60,u61,u62,u63,u64,u65,u66,u67,u68,u69,u70,u71,u72,u73,u74,u75,u76,u77,u78,u79,u80,u81,u82,u83,u84,u85,u86,u87,u88,u89,u90,u91,u92,u93,u94,u95,u96,u97,u98,u99,u100,u101,u102,u103,u104,u105,u106,u107,u108,u109,u110,u111,u112,u113,u114,u115,u116,u117,u118,u119,u120,u121,u122,u123,u124,u125,u126,u127,u128,u129,u130,u131,u132,u133,u134,u135,u136,u137,u138,u139,u140,u141,u142,u143,u144,u145,u146,u147,u148,u149,u150,u151,u152,u153,u154,u155,u156,u157,u158,u159,u160,u161,u162,u163,u164,u165,u166,u167,u168,u169,u170,u171,u172,u173,u174,u175,u176,u177,u178,u179,u180,u181,u182,u183,u184,u185,u186,u187,u188,u189,u190,u191,u192,u193,u194,u195,u196,u197,u198,u199,u200,u201,u202,u203,u204,u205,u206,u207,u208,u209,u210,u211,u212,u213,u214,u215,u216,u217,u218,u219,u220,u221,u222,u223,u224,u225,u226,u227,u228,u229,u230,u231,u232,u233,u234,u235,u236,u237,u238,u239,u240,u241,u242,u243,u244,u245,u246,u247,u248,u249,u250,u251,u252,u253,u254,u255,u256,u257,u258,u259,u260,u261,u262,u263,u264,u265,u266,u267,u268,u269,u270,u271,u272,u273,u274,u275,u276,u277,u278,u279,u280,u281,u282,u283,u284,u285,u286,u287,u288,u289,u290,u291,u292,u293,u294,u295,u296,u297],[]⟩ w:=by
 have HC:=Lib.hid C;have HM:=Lib.hid M;have HRET:=Lib.hid hret;have HNX:=Lib.hid hnext;clear C M hret hnext;have c1:=HM.out.head.cell 1;have c2:=HM.out.head.cell 2;have x1:=HM.out.mem.cell 1;have f1:=HM.out.mem.frozen 1;unfold headC at c1 c2;simp only [List.getElem?_toArray,List.getElem?_cons_zero,List.getElem?_cons_succ] at c1 c2 x1;have HA:=Lib.hid ha;have H0:=Lib.hid h0;have H2:=Lib.hid h2;have H5:=Lib.hid h5;have HL:=Lib.hid hl;clear ha h0 h2 h5 hl;have H3A:=Lib.hid h3a;clear h3a
 conv => arg 2;whnf
 refine wp_seq_k (fun K hK => ?_)
 have HK:=Lib.hid hK;clear hK
 by_cases hk50:h1.kind=50
 ·have c2k:w.cell? ⟨g,2,none⟩=some (.int .u8 50):=by rw [c2,hk50];rfl
  have HK5:=Lib.hid hk50;have HTG:Hid (targetOf h1=h1.link):=Lib.hid (by unfold targetOf;rw [if_neg (by rw [hk50];decide),if_pos hk50])
  obtain ⟨te,hte⟩:∃ te,targetD 9 6 h1.link=te:=⟨_,rfl⟩;have HTE:=Lib.hid hte;clear c2 hk50 hte
  go_upto_region 58 with fail
  refine wp_region_still_tail 6 (by kernel_rfl) (by kernel_rfl) ?_
  simp only [List.take_succ_cons,List.take_zero,List.drop_succ_cons,List.drop_zero]
  repeat still_step
  still_call ((rtarget_any h1.link _ (by have:=HL.out;omega)).mono fun _ _ h => ⟨h.1,h.2.symm⟩)
  repeat still_step
  refine wpStill_nil ?_
  rw [HTE.out];have y1:w.drew.cell? ⟨gm,1,none⟩=_:=x1;have g1:w.drew.frozen? ⟨gm,1,none⟩=_:=f1
  go_wp2
  have HM2:=Lib.hid ((HM.out.below ((Below.refl _ w).drew)).setT h1.link)
  by_cases h0e:te=0
  ·subst h0e
   exact HK.out _ _ (mt59 HC.out (by rw [HTG.out];exact HM2.out) HA.out H0.out H2.out (link50 HK5.out HTE.out) H5.out HRET.out HNX.out)
  ·exact HK.out _ _ (te59 HC.out HM2.out.sn h0e (HRET.out te (by rw [HC.out.step,← HTE.out];exact md_err HC.out.full HC.out.kind (mo_target HA.out H0.out H2.out HK5.out (by rw [HTE.out];exact h0e)))))
 ·have n50:((h1.kind.toNat:Int) == 50)=false:=by
   rw [beq_eq_false_iff_ne];intro h;exact hk50 (UInt8.toNat.inj (by simpa using (by omega:h1.kind.toNat=50)))
  have HTG:Hid (targetOf h1=(if h1.kind=49 then (cleanD 9 6 h1.link).1 else [])):=Lib.hid (by unfold targetOf;rw [if_neg hk50])
  have HLK:Hid (LinkOk h1):=Lib.hid ⟨H3A.out,fun h => absurd h hk50⟩
  clear hk50
  go_wp2
  exact HK.out _ _ (mt59 HC.out (by rw [HTG.out];exact HM.out) HA.out H0.out H2.out HLK.out H5.out HRET.out HNX.out)
set_option maxHeartbeats 4000000 in
theorem mt55 {wa W1 wr:World} {bs:List UInt8} {a N c b0 o0:Nat} {s:RS} {vo:Value} {xs:List MP} {vg:Value} {q:Option Addr} {qn qd:Nat} {nm lk:List UInt8} {hx hl hk:Bool} {h:HeadV} {w:World} {g gm:Nat} {h1:HeadV} {u1 u2 u6 u7 u8 u9 u10 u11 u13 u17 u18 u19 u20 u21 u23 u24 u25 u26 u27 u28 u29 u30 u31 u32 u33 u34 u35 u36 u37 u38 u39 u40 u41 u42 u43 u44 u45 u46 u47 u48 u49 u50 u51 u52 u53 u54 u55 u56 u57 u58 u59 u60 u61 u62 u63 u64 u65 u66 u67 u68 u69 u70 u71 u72 u73 u74 u75 u76 u77 u78 u79 u80 u81 u82 u83 u84 u85 u86 u87 u88 u89 u90 u91 u92 u93 u94 u95 u96 u97 u98 u99 u100 u101 u102 u103 u104 u105 u106 u107 u108 u109 u110 u111 u112 u113 u114 u115 u116 u117 u118 u119 u120 u121 u122 u123 u124 u125 u126 u127 u128 u129 u130 u131 u132 u133 u134 u135 u136 u137 u138 u139 u140 u141 u142 u143 u144 u145 u146 u147 u148 u149 u150 u151 u152 u153 u154 u155 u156 u157 u158 u159 u160 u161 u162 u163 u164 u165 u166 u167 u168 u169 u170 u171 u172 u173 u174 u175 u176 u177 u178 u179 u180 u181 u182 u183 u184 u185 u186 u187 u188 u189 u190 u191 u192 u193 u194 u195 u196 u197 u198 u199 u200 u201 u202 u203 u204 u205 u206 u207 u208 u209 u210 u211 u212 u213 u214 u215 u216 u217 u218 u219 u220 u221 u222 u223 u224 u225 u226 u227 u228 u229 u230 u231 u232 u233 u234 u235 u236 u237 u238 u239 u240 u241 u242 u243 u244 u245 u246 u247 u248 u249 u250 u251 u252 u253 u254 u255 u256 u257 u258 u259 u260 u261 u262 u263 u264 u265 u266 u267 u268 u269 u270 u271 u272 u273 u274 u275 u276 u277 u278 u279 u280 u281 u282 u283 u284 u285 u286 u287 u288 u289 u290 u291 u292 u293 u294 u295 u296 u297:Value} {Q:Exit → Act → World → Prop} (C:MC wa W1 wr bs a N c b0 o0 s vo xs vg q qn qd nm lk hx hl hk h) (M:MM wr w g gm h1 (cleanD 9 6 h1.name).1 []) (ha:IsApplied h s h1 0) (h0:(cleanD 9 6 h1.name).2=0) (h2:metaOk h1.mode h1.uid h1.gid h1.time=true) (h5:0≤h1.size) (hl:h1.link.length≤1048576) (hret:RetAll wa a bs s Q) (hnext:NextAll wa W1 bs a N c (some ⟨b0,o0,none⟩) Q .normal):Code.wp Tryz.prog (tailC 55) Q ⟨#[.slice (some ⟨b0,o0,none⟩) N c,u1,u2,.pointer (some ⟨wa.heap.size,0,none⟩),vo,vg,u6,u7,u8,u9,u10,u11,.int .i64 (a:Int),u13,.int .i64 ((a:Int)+512),.pointer (some ⟨g,0,none⟩),.int .i64 0,u17,u18,u19,u20,u21,.pointer (some ⟨gm,0,none⟩),u23,u24,u25,u26,u27,u28,u29,u30,u31,u32,u33,u34,u35,u36,u37,u38,u39,u40,u41,u42,u43,u44,u45,u46,u47,u48,u49,u50,u51,u52,u53,u54,u55,u56,u57,u58,u59,u60,u61,u62,u63,u64,u65,u66,u67,u68,u69,u70,u71,u72,u73,u74,u75,u76,u77,u78,u79,u80,u81,u82,u83,u84,u85,u86,u87,u88,u89,u90,u91,u92,u93,u94,u95,u96,u97,u98,u99,u100,u101,u102,u103,u104,u105,u106,u107,u108,u109,u110,u111,u112,u113,u114,u115,u116,u117,u118,u119,u120,u121,u122,u123,u124,u125,u126,u127,u128,u129,u130,u131,u132,u133,u134,u135,u136,u137,u138,u139,u140,u141,u142,u143,u144,u145,u146,u147,u148,u149,u150,u151,u152,u153,u154,u155,u156,u157,u158,u159,u160,u161,u162,u163,u164,u165,u166,u167,u168,u169,u170,u171,u172,u173,u174,u175,u176,u177,u178,u179,u180,u181,u182,u183,u184,u185,u186,u187,u188,u189,u190,u191,u192,u193,u194,u195,u196,u197,u198,u199,u200,u201,u202,u203,u204,u205,u206,u207,u208,u209,u210,u211,u212,u213,u214,u215,u216,u217,u218,u219,u220,u221,u222,u223,u224,u225,u226,u227,u228,u229,u230,u231,u232,u233,u234,u235,u236,u237,u238,u239,u240,u241,u242,u243,u244,u245,u246,u247,u248,u249,u250,u251,u252,u253,u254,u255,u256,u257,u258,u259,u260,u261,u262,u263,u264,u265,u266,u267,u268,u269,u270,u271,u272,u273,u274,u275,u276,u277,u278,u279,u280,u281,u282,u283,u284,u285,u286,u287,u288,u289,u290,u291,u292,u293,u294,u295,u296,u297],[]⟩ w:=by
 have HC:=Lib.hid C;have HM:=Lib.hid M;have HRET:=Lib.hid hret;have HNX:=Lib.hid hnext;clear C M hret hnext;have c1:=HM.out.head.cell 1;have c2:=HM.out.head.cell 2;have x1:=HM.out.mem.cell 1;have f1:=HM.out.mem.frozen 1;unfold headC at c1 c2;simp only [List.getElem?_toArray,List.getElem?_cons_zero,List.getElem?_cons_succ] at c1 c2 x1;have HA:=Lib.hid ha;have H0:=Lib.hid h0;have H2:=Lib.hid h2;have H5:=Lib.hid h5;have HL:=Lib.hid hl;clear ha h0 h2 h5 hl
 conv => arg 2;whnf
 refine wp_seq_k (fun K hK => ?_)
 have HK:=Lib.hid hK;clear hK
 by_cases hk49:h1.kind=49
 ·have c2k:w.cell? ⟨g,2,none⟩=some (.int .u8 49):=by rw [c2,hk49];rfl
  have HK4:=Lib.hid hk49;obtain ⟨⟨cp,ce⟩,hcl⟩:∃ x,cleanD 9 6 h1.link=x:=⟨_,rfl⟩;have hcc:=rclean_any (str h1.link) w (by rw [str_size];have:=HL.out;omega)
  rw [str_data,hcl] at hcc;have HCC:=Lib.hid hcc;have HCL:=Lib.hid hcl;clear c2 hk49 hcc hcl
  go_wp2_with fail
  refine HCC.out.mono ?_
  rintro e wz ⟨rfl,rfl⟩
  go_wp2
  have HM2:=Lib.hid (HM.out.setT cp)
  by_cases h0e:ce=0
  ·subst h0e
   exact HK.out _ _ (mt57 HC.out (by rw [if_pos HK4.out,HCL.out];exact HM2.out) HA.out H0.out H2.out H5.out HL.out (fun _ => by rw [HCL.out]) HRET.out HNX.out)
  ·exact HK.out _ _ (te57 HC.out HM2.out.sn h0e (HRET.out ce (by
    have hce:(cleanD 9 6 h1.link).2=ce:=by rw [HCL.out]
    rw [HC.out.step,← hce];exact md_err HC.out.full HC.out.kind (mo_link HA.out H0.out H2.out HK4.out (by rw [hce];exact h0e)))))
 ·have n49:((h1.kind.toNat:Int) == 49)=false:=by
   rw [beq_eq_false_iff_ne];intro h;exact hk49 (UInt8.toNat.inj (by simpa using (by omega:h1.kind.toNat=49)))
  have HK4:=Lib.hid hk49;clear hk49
  go_wp2
  exact HK.out _ _ (mt57 HC.out (by rw [if_neg HK4.out];exact HM.out) HA.out H0.out H2.out H5.out HL.out (fun h => absurd h HK4.out) HRET.out HNX.out)
set_option maxHeartbeats 4000000 in
theorem mt53 {wa W1 wr:World} {bs:List UInt8} {a N c b0 o0:Nat} {s:RS} {vo:Value} {xs:List MP} {vg:Value} {q:Option Addr} {qn qd:Nat} {nm lk:List UInt8} {hx hl hk:Bool} {h:HeadV} {w:World} {g gm:Nat} {h1:HeadV} {u1 u2 u6 u7 u8 u9 u10 u11 u13 u17 u18 u19 u20 u21 u23 u24 u25 u26 u27 u28 u29 u30 u31 u32 u33 u34 u35 u36 u37 u38 u39 u40 u41 u42 u43 u44 u45 u46 u47 u48 u49 u50 u51 u52 u53 u54 u55 u56 u57 u58 u59 u60 u61 u62 u63 u64 u65 u66 u67 u68 u69 u70 u71 u72 u73 u74 u75 u76 u77 u78 u79 u80 u81 u82 u83 u84 u85 u86 u87 u88 u89 u90 u91 u92 u93 u94 u95 u96 u97 u98 u99 u100 u101 u102 u103 u104 u105 u106 u107 u108 u109 u110 u111 u112 u113 u114 u115 u116 u117 u118 u119 u120 u121 u122 u123 u124 u125 u126 u127 u128 u129 u130 u131 u132 u133 u134 u135 u136 u137 u138 u139 u140 u141 u142 u143 u144 u145 u146 u147 u148 u149 u150 u151 u152 u153 u154 u155 u156 u157 u158 u159 u160 u161 u162 u163 u164 u165 u166 u167 u168 u169 u170 u171 u172 u173 u174 u175 u176 u177 u178 u179 u180 u181 u182 u183 u184 u185 u186 u187 u188 u189 u190 u191 u192 u193 u194 u195 u196 u197 u198 u199 u200 u201 u202 u203 u204 u205 u206 u207 u208 u209 u210 u211 u212 u213 u214 u215 u216 u217 u218 u219 u220 u221 u222 u223 u224 u225 u226 u227 u228 u229 u230 u231 u232 u233 u234 u235 u236 u237 u238 u239 u240 u241 u242 u243 u244 u245 u246 u247 u248 u249 u250 u251 u252 u253 u254 u255 u256 u257 u258 u259 u260 u261 u262 u263 u264 u265 u266 u267 u268 u269 u270 u271 u272 u273 u274 u275 u276 u277 u278 u279 u280 u281 u282 u283 u284 u285 u286 u287 u288 u289 u290 u291 u292 u293 u294 u295 u296 u297:Value} {Q:Exit → Act → World → Prop} (C:MC wa W1 wr bs a N c b0 o0 s vo xs vg q qn qd nm lk hx hl hk h) (M:MM wr w g gm h1 (cleanD 9 6 h1.name).1 []) (ha:IsApplied h s h1 0) (h0:(cleanD 9 6 h1.name).2=0) (h5:0≤h1.size) (hl:h1.link.length≤1048576) (hret:RetAll wa a bs s Q) (hnext:NextAll wa W1 bs a N c (some ⟨b0,o0,none⟩) Q .normal):Code.wp Tryz.prog (tailC 53) Q ⟨#[.slice (some ⟨b0,o0,none⟩) N c,u1,u2,.pointer (some ⟨wa.heap.size,0,none⟩),vo,vg,u6,u7,u8,u9,u10,u11,.int .i64 (a:Int),u13,.int .i64 ((a:Int)+512),.pointer (some ⟨g,0,none⟩),.int .i64 0,u17,u18,u19,u20,u21,.pointer (some ⟨gm,0,none⟩),u23,u24,u25,u26,u27,u28,u29,u30,u31,u32,u33,u34,u35,u36,u37,u38,u39,u40,u41,u42,u43,u44,u45,u46,u47,u48,u49,u50,u51,u52,u53,u54,u55,u56,u57,u58,u59,u60,u61,u62,u63,u64,u65,u66,u67,u68,u69,u70,u71,u72,u73,u74,u75,u76,u77,u78,u79,u80,u81,u82,u83,u84,u85,u86,u87,u88,u89,u90,u91,u92,u93,u94,u95,u96,u97,u98,u99,u100,u101,u102,u103,u104,u105,u106,u107,u108,u109,u110,u111,u112,u113,u114,u115,u116,u117,u118,u119,u120,u121,u122,u123,u124,u125,u126,u127,u128,u129,u130,u131,u132,u133,u134,u135,u136,u137,u138,u139,u140,u141,u142,u143,u144,u145,u146,u147,u148,u149,u150,u151,u152,u153,u154,u155,u156,u157,u158,u159,u160,u161,u162,u163,u164,u165,u166,u167,u168,u169,u170,u171,u172,u173,u174,u175,u176,u177,u178,u179,u180,u181,u182,u183,u184,u185,u186,u187,u188,u189,u190,u191,u192,u193,u194,u195,u196,u197,u198,u199,u200,u201,u202,u203,u204,u205,u206,u207,u208,u209,u210,u211,u212,u213,u214,u215,u216,u217,u218,u219,u220,u221,u222,u223,u224,u225,u226,u227,u228,u229,u230,u231,u232,u233,u234,u235,u236,u237,u238,u239,u240,u241,u242,u243,u244,u245,u246,u247,u248,u249,u250,u251,u252,u253,u254,u255,u256,u257,u258,u259,u260,u261,u262,u263,u264,u265,u266,u267,u268,u269,u270,u271,u272,u273,u274,u275,u276,u277,u278,u279,u280,u281,u282,u283,u284,u285,u286,u287,u288,u289,u290,u291,u292,u293,u294,u295,u296,u297],[]⟩ w:=by
 have HC:=Lib.hid C;have HM:=Lib.hid M;have HRET:=Lib.hid hret;have HNX:=Lib.hid hnext;clear C M hret hnext;have c3:=HM.out.head.cell 3;have c4:=HM.out.head.cell 4;have c5:=HM.out.head.cell 5;have c6:=HM.out.head.cell 6;unfold headC at c3 c4 c5 c6;simp only [List.getElem?_toArray,List.getElem?_cons_zero,List.getElem?_cons_succ] at c3 c4 c5 c6;have HA:=Lib.hid ha;have H0:=Lib.hid h0;have H5:=Lib.hid h5;have HL:=Lib.hid hl;clear ha h0 h5 hl;have hme:=rmeta_any h1.mode h1.uid h1.gid h1.time w;obtain ⟨mk,hmk⟩:∃ mk,metaOk h1.mode h1.uid h1.gid h1.time=mk:=⟨_,rfl⟩
 rw [hmk] at hme;have HME:=Lib.hid hme;have HMK:=Lib.hid hmk;clear hme hmk
 conv => arg 2;whnf
 refine wp_seq_k (fun K hK => ?_)
 have HK:=Lib.hid hK;clear hK
 go_wp2_with fail
 refine HME.out.mono ?_
 rintro e w1 ⟨rfl,hb1⟩;have HM1:=Lib.hid (HM.out.below hb1);clear hb1
 cases mk with
 | true =>
   go_wp2
   exact HK.out _ _ (mt55 HC.out HM1.out HA.out H0.out HMK.out H5.out HL.out HRET.out HNX.out)
 | false =>
   go_wp2
   exact HK.out _ _ (te55 HC.out HM1.out.sn (by decide) (HRET.out 4 (by rw [HC.out.step];exact md_err HC.out.full HC.out.kind (mo_meta HA.out H0.out HMK.out))))
set_option maxHeartbeats 4000000 in
theorem mt51 {wa W1 wr:World} {bs:List UInt8} {a N c b0 o0:Nat} {s:RS} {vo:Value} {xs:List MP} {vg:Value} {q:Option Addr} {qn qd:Nat} {nm lk:List UInt8} {hx hl hk:Bool} {h:HeadV} {w:World} {g gm:Nat} {h1:HeadV} {u1 u2 u6 u7 u8 u9 u10 u11 u13 u17 u18 u19 u20 u21 u23 u24 u25 u26 u27 u28 u29 u30 u31 u32 u33 u34 u35 u36 u37 u38 u39 u40 u41 u42 u43 u44 u45 u46 u47 u48 u49 u50 u51 u52 u53 u54 u55 u56 u57 u58 u59 u60 u61 u62 u63 u64 u65 u66 u67 u68 u69 u70 u71 u72 u73 u74 u75 u76 u77 u78 u79 u80 u81 u82 u83 u84 u85 u86 u87 u88 u89 u90 u91 u92 u93 u94 u95 u96 u97 u98 u99 u100 u101 u102 u103 u104 u105 u106 u107 u108 u109 u110 u111 u112 u113 u114 u115 u116 u117 u118 u119 u120 u121 u122 u123 u124 u125 u126 u127 u128 u129 u130 u131 u132 u133 u134 u135 u136 u137 u138 u139 u140 u141 u142 u143 u144 u145 u146 u147 u148 u149 u150 u151 u152 u153 u154 u155 u156 u157 u158 u159 u160 u161 u162 u163 u164 u165 u166 u167 u168 u169 u170 u171 u172 u173 u174 u175 u176 u177 u178 u179 u180 u181 u182 u183 u184 u185 u186 u187 u188 u189 u190 u191 u192 u193 u194 u195 u196 u197 u198 u199 u200 u201 u202 u203 u204 u205 u206 u207 u208 u209 u210 u211 u212 u213 u214 u215 u216 u217 u218 u219 u220 u221 u222 u223 u224 u225 u226 u227 u228 u229 u230 u231 u232 u233 u234 u235 u236 u237 u238 u239 u240 u241 u242 u243 u244 u245 u246 u247 u248 u249 u250 u251 u252 u253 u254 u255 u256 u257 u258 u259 u260 u261 u262 u263 u264 u265 u266 u267 u268 u269 u270 u271 u272 u273 u274 u275 u276 u277 u278 u279 u280 u281 u282 u283 u284 u285 u286 u287 u288 u289 u290 u291 u292 u293 u294 u295 u296 u297:Value} {Q:Exit → Act → World → Prop} (C:MC wa W1 wr bs a N c b0 o0 s vo xs vg q qn qd nm lk hx hl hk h) (M:MM wr w g gm h1 [] []) (ha:IsApplied h s h1 0) (h5:0≤h1.size) (hn:h1.name.length≤1048576) (hl:h1.link.length≤1048576) (hret:RetAll wa a bs s Q) (hnext:NextAll wa W1 bs a N c (some ⟨b0,o0,none⟩) Q .normal):Code.wp Tryz.prog (tailC 51) Q ⟨#[.slice (some ⟨b0,o0,none⟩) N c,u1,u2,.pointer (some ⟨wa.heap.size,0,none⟩),vo,vg,u6,u7,u8,u9,u10,u11,.int .i64 (a:Int),u13,.int .i64 ((a:Int)+512),.pointer (some ⟨g,0,none⟩),.int .i64 0,u17,u18,u19,u20,u21,.pointer (some ⟨gm,0,none⟩),u23,u24,u25,u26,u27,u28,u29,u30,u31,u32,u33,u34,u35,u36,u37,u38,u39,u40,u41,u42,u43,u44,u45,u46,u47,u48,u49,u50,u51,u52,u53,u54,u55,u56,u57,u58,u59,u60,u61,u62,u63,u64,u65,u66,u67,u68,u69,u70,u71,u72,u73,u74,u75,u76,u77,u78,u79,u80,u81,u82,u83,u84,u85,u86,u87,u88,u89,u90,u91,u92,u93,u94,u95,u96,u97,u98,u99,u100,u101,u102,u103,u104,u105,u106,u107,u108,u109,u110,u111,u112,u113,u114,u115,u116,u117,u118,u119,u120,u121,u122,u123,u124,u125,u126,u127,u128,u129,u130,u131,u132,u133,u134,u135,u136,u137,u138,u139,u140,u141,u142,u143,u144,u145,u146,u147,u148,u149,u150,u151,u152,u153,u154,u155,u156,u157,u158,u159,u160,u161,u162,u163,u164,u165,u166,u167,u168,u169,u170,u171,u172,u173,u174,u175,u176,u177,u178,u179,u180,u181,u182,u183,u184,u185,u186,u187,u188,u189,u190,u191,u192,u193,u194,u195,u196,u197,u198,u199,u200,u201,u202,u203,u204,u205,u206,u207,u208,u209,u210,u211,u212,u213,u214,u215,u216,u217,u218,u219,u220,u221,u222,u223,u224,u225,u226,u227,u228,u229,u230,u231,u232,u233,u234,u235,u236,u237,u238,u239,u240,u241,u242,u243,u244,u245,u246,u247,u248,u249,u250,u251,u252,u253,u254,u255,u256,u257,u258,u259,u260,u261,u262,u263,u264,u265,u266,u267,u268,u269,u270,u271,u272,u273,u274,u275,u276,u277,u278,u279,u280,u281,u282,u283,u284,u285,u286,u287,u288,u289,u290,u291,u292,u293,u294,u295,u296,u297],[]⟩ w:=by
 have HC:=Lib.hid C;have HM:=Lib.hid M;have HRET:=Lib.hid hret;have HNX:=Lib.hid hnext;clear C M hret hnext;have c0:=HM.out.head.cell 0;have x0:=HM.out.mem.cell 0;have f0:=HM.out.mem.frozen 0;unfold headC at c0;simp only [List.getElem?_toArray,List.getElem?_cons_zero] at c0 x0;have HA:=Lib.hid ha;have H5:=Lib.hid h5;have HL:=Lib.hid hl;obtain ⟨⟨cp,ce⟩,hcl⟩:∃ x,cleanD 9 6 h1.name=x:=⟨_,rfl⟩;have hcc:=rclean_any (str h1.name) w (by rw [str_size];omega)
 rw [str_data,hcl] at hcc;have HCC:=Lib.hid hcc;have HCL:=Lib.hid hcl;clear ha h5 hn hl hcc hcl
 conv => arg 2;whnf
 refine wp_seq_k (fun K hK => ?_)
 have HK:=Lib.hid hK;clear hK
 go_wp2_with fail
 refine HCC.out.mono ?_
 rintro e wz ⟨rfl,rfl⟩
 go_wp2
 have HM2:=Lib.hid (HM.out.setP cp)
 by_cases h0e:ce=0
 ·subst h0e
  exact HK.out _ _ (mt53 HC.out (by rw [HCL.out];exact HM2.out) HA.out (by rw [HCL.out]) H5.out HL.out HRET.out HNX.out)
 ·exact HK.out _ _ (te53 HC.out HM2.out.sn h0e (HRET.out ce (by
   have hce:(cleanD 9 6 h1.name).2=ce:=by rw [HCL.out]
   rw [HC.out.step,← hce];exact md_err HC.out.full HC.out.kind (mo_path HA.out (by rw [hce];exact h0e)))))
def longV (h:HeadV) (s:RS):HeadV:={ h with name:=s.name.getD h.name,link:=s.link.getD h.link }
set_option maxHeartbeats 8000000 in
theorem mt49 {wa W1 wr:World} {bs:List UInt8} {a N c b0 o0:Nat} {s:RS} {vo:Value} {xs:List MP} {vg:Value} {q:Option Addr} {qn qd:Nat} {nm lk:List UInt8} {hx hl hk:Bool} {h:HeadV} {w:World} {g:Nat} {u1 u2 u7 u8 u9 u10 u11 u13 u16 u17 u18 u19 u20 u21 u22 u23 u24 u25 u26 u27 u28 u29 u30 u31 u32 u33 u34 u35 u36 u37 u38 u39 u40 u41 u42 u43 u44 u45 u46 u47 u48 u49 u50 u51 u52 u53 u54 u55 u56 u57 u58 u59 u60 u61 u62 u63 u64 u65 u66 u67 u68 u69 u70 u71 u72 u73 u74 u75 u76 u77 u78 u79 u80 u81 u82 u83 u84 u85 u86 u87 u88 u89 u90 u91 u92 u93 u94 u95 u96 u97 u98 u99 u100 u101 u102 u103 u104 u105 u106 u107 u108 u109 u110 u111 u112 u113 u114 u115 u116 u117 u118 u119 u120 u121 u122 u123 u124 u125 u126 u127 u128 u129 u130 u131 u132 u133 u134 u135 u136 u137 u138 u139 u140 u141 u142 u143 u144 u145 u146 u147 u148 u149 u150 u151 u152 u153 u154 u155 u156 u157 u158 u159 u160 u161 u162 u163 u164 u165 u166 u167 u168 u169 u170 u171 u172 u173 u174 u175 u176 u177 u178 u179 u180 u181 u182 u183 u184 u185 u186 u187 u188 u189 u190 u191 u192 u193 u194 u195 u196 u197 u198 u199 u200 u201 u202 u203 u204 u205 u206 u207 u208 u209 u210 u211 u212 u213 u214 u215 u216 u217 u218 u219 u220 u221 u222 u223 u224 u225 u226 u227 u228 u229 u230 u231 u232 u233 u234 u235 u236 u237 u238 u239 u240 u241 u242 u243 u244 u245 u246 u247 u248 u249 u250 u251 u252 u253 u254 u255 u256 u257 u258 u259 u260 u261 u262 u263 u264 u265 u266 u267 u268 u269 u270 u271 u272 u273 u274 u275 u276 u277 u278 u279 u280 u281 u282 u283 u284 u285 u286 u287 u288 u289 u290 u291 u292 u293 u294 u295 u296 u297:Value} {Q:Exit → Act → World → Prop} (C:MC wa W1 wr bs a N c b0 o0 s vo xs vg q qn qd nm lk hx hl hk h) (sn:Below wr.heap.size wr w) (hg:wr.heap.size≤g) (hH:Blk w g 57 (headC (longV h s))) (hbd:0≤h.size∧h.name.length≤1000∧h.link.length≤1000) (hret:RetAll wa a bs s Q) (hnext:NextAll wa W1 bs a N c (some ⟨b0,o0,none⟩) Q .normal):Code.wp Tryz.prog (tailC 49) Q ⟨#[.slice (some ⟨b0,o0,none⟩) N c,u1,u2,.pointer (some ⟨wa.heap.size,0,none⟩),vo,vg,.slice q qn qd,u7,u8,u9,u10,u11,.int .i64 (a:Int),u13,.int .i64 ((a:Int)+512),.pointer (some ⟨g,0,none⟩),u16,u17,u18,u19,u20,u21,u22,u23,u24,u25,u26,u27,u28,u29,u30,u31,u32,u33,u34,u35,u36,u37,u38,u39,u40,u41,u42,u43,u44,u45,u46,u47,u48,u49,u50,u51,u52,u53,u54,u55,u56,u57,u58,u59,u60,u61,u62,u63,u64,u65,u66,u67,u68,u69,u70,u71,u72,u73,u74,u75,u76,u77,u78,u79,u80,u81,u82,u83,u84,u85,u86,u87,u88,u89,u90,u91,u92,u93,u94,u95,u96,u97,u98,u99,u100,u101,u102,u103,u104,u105,u106,u107,u108,u109,u110,u111,u112,u113,u114,u115,u116,u117,u118,u119,u120,u121,u122,u123,u124,u125,u126,u127,u128,u129,u130,u131,u132,u133,u134,u135,u136,u137,u138,u139,u140,u141,u142,u143,u144,u145,u146,u147,u148,u149,u150,u151,u152,u153,u154,u155,u156,u157,u158,u159,u160,u161,u162,u163,u164,u165,u166,u167,u168,u169,u170,u171,u172,u173,u174,u175,u176,u177,u178,u179,u180,u181,u182,u183,u184,u185,u186,u187,u188,u189,u190,u191,u192,u193,u194,u195,u196,u197,u198,u199,u200,u201,u202,u203,u204,u205,u206,u207,u208,u209,u210,u211,u212,u213,u214,u215,u216,u217,u218,u219,u220,u221,u222,u223,u224,u225,u226,u227,u228,u229,u230,u231,u232,u233,u234,u235,u236,u237,u238,u239,u240,u241,u242,u243,u244,u245,u246,u247,u248,u249,u250,u251,u252,u253,u254,u255,u256,u257,u258,u259,u260,u261,u262,u263,u264,u265,u266,u267,u268,u269,u270,u271,u272,u273,u274,u275,u276,u277,u278,u279,u280,u281,u282,u283,u284,u285,u286,u287,u288,u289,u290,u291,u292,u293,u294,u295,u296,u297],[]⟩ w:=by
 obtain ⟨p5,c5,rfl,hc5,hm5,hra⟩:=recs_own C.rd.glob;obtain ⟨⟨h1,e1⟩,hap0⟩:∃ x,applyD (lastD s.glob) s.own (longV h s)=x:=⟨_,rfl⟩;have hgl:=fun k => glob_len C.rd.lenG C.rd.lenO k
 have hnl:(longV h s).name.length≤1048576:=by
  show (s.name.getD h.name).length≤_;rw [C.rd.name]
  cases hl
  ·exact Nat.le_trans hbd.2.1 (by decide)
  ·exact C.rd.lenN.1
 have hll:(longV h s).link.length≤1048576:=by
  show (s.link.getD h.link).length≤_;rw [C.rd.link]
  cases hk
  ·exact Nat.le_trans hbd.2.2 (by decide)
  ·exact C.rd.lenN.2.1
 have hb1:=applyV_bd (V:=fun i => valueD (lastD s.glob) s.own (keyT i)) (h:=longV h s) 1048576 (fun i _ => hgl _) hbd.1 hnl hll
 have hap:=rapply_any p5 s.glob.length c5 s.glob q qn qd s.own (longV h s) w (by have:=C.rd.gsz;have:=C.rd.le;have:=C.len;have:=C.hN;omega) (by have:=C.rd.lenN.2.2;omega) (hra.below sn) (C.rd.own.below sn) (fun i _ => Nat.le_trans (hgl _) (by decide))
 change 0≤(applyD (lastD s.glob) s.own (longV h s)).1.size∧(applyD (lastD s.glob) s.own (longV h s)).1.name.length≤_∧(applyD (lastD s.glob) s.own (longV h s)).1.link.length≤_ at hb1;rw [hap0] at hap hb1;unfold headA headC at hap;have HAP:=Lib.hid hap;have HB1:=Lib.hid hb1;have HA0:Hid (IsApplied h s h1 e1):=Lib.hid hap0;have HC:=Lib.hid C;have HS:=Lib.hid sn;have HG:=Lib.hid hg;have HH:=Lib.hid hH;have HRET:=Lib.hid hret;have HNX:=Lib.hid hnext;have c0:=hH.cell 0;have c1:=hH.cell 1;have c2:=hH.cell 2;have c3:=hH.cell 3;have c4:=hH.cell 4;have c5_:=hH.cell 5
 have c6:=hH.cell 6;have c7:=hH.cell 7;have c8:=hH.cell 8;unfold headC at c0 c1 c2 c3 c4 c5_ c6 c7 c8;simp only [List.getElem?_toArray,List.getElem?_cons_zero,List.getElem?_cons_succ] at c0 c1 c2 c3 c4 c5_ c6 c7 c8;clear hap hb1 hap0 C sn hg hH hret hnext hgl hnl hll hbd hc5 hm5 hra
 conv => arg 2;whnf
 refine wp_seq_k (fun K1 hK1 => ?_)
 have HK1:=Lib.hid hK1;clear hK1
 go_wp2_with fail
 refine HAP.out.mono ?_
 rintro e w1 ⟨rfl,hb⟩;have hX:=HH.out.below hb HH.out.lt;have x0:=hX.cell 0;have x1:=hX.cell 1;have x2:=hX.cell 2;have x3:=hX.cell 3;have x4:=hX.cell 4;have x5:=hX.cell 5;have x6:=hX.cell 6;have x7:=hX.cell 7;have x8:=hX.cell 8;have f0:=hX.frozen 0;have f1:=hX.frozen 1;have f2:=hX.frozen 2;have f3:=hX.frozen 3;have f4:=hX.frozen 4;have f5:=hX.frozen 5;have f6:=hX.frozen 6;have f7:=hX.frozen 7;have f8:=hX.frozen 8;unfold headC at x0 x1 x2 x3 x4 x5 x6 x7 x8;simp only [List.getElem?_toArray,List.getElem?_cons_zero,List.getElem?_cons_succ] at x0 x1 x2 x3 x4 x5 x6 x7 x8
 have HX:=Lib.hid hX;have HBW:=Lib.hid (HS.out.trans (hb.mono HS.out.size));clear hX hb c0 c1 c2 c3 c4 c5_ c6 c7 c8 HAP
 go_wp2
 obtain ⟨w2,hw⟩:∃ w2,(((((((((w1.setCell ⟨g,0,none⟩ (.string (str h1.name))).setCell ⟨g,1,none⟩ (.string (str h1.link))).setCell ⟨g,2,none⟩ (.int .u8 (h1.kind.toNat:Int))).setCell ⟨g,3,none⟩ (.int .i64 h1.mode)).setCell ⟨g,4,none⟩ (.int .i64 h1.uid)).setCell ⟨g,5,none⟩ (.int .i64 h1.gid)).setCell ⟨g,6,none⟩ (.int .i64 h1.time)).setCell ⟨g,7,none⟩ (.int .i64 h1.size)).setCell ⟨g,8,none⟩ (.bool h1.gnu))=w2:=⟨_,rfl⟩;have hY:Blk w2 g 57 (headC h1):=by rw [← hw];exact blk9 HX.out _ _ _ _ _ _ _ _ _
 have hS2:Below wr.heap.size wr w2:=by
  rw [← hw];exact (((((((((HBW.out.setCell (p:=⟨g,0,none⟩) HG.out _).setCell (p:=⟨g,1,none⟩) HG.out _).setCell (p:=⟨g,2,none⟩) HG.out _).setCell (p:=⟨g,3,none⟩) HG.out _).setCell (p:=⟨g,4,none⟩) HG.out _).setCell (p:=⟨g,5,none⟩) HG.out _).setCell (p:=⟨g,6,none⟩) HG.out _).setCell (p:=⟨g,7,none⟩) HG.out _).setCell (p:=⟨g,8,none⟩) HG.out _)
 rw [hw];have y2:=hY.cell 2;have y3:=hY.cell 3;have y4:=hY.cell 4;have y5:=hY.cell 5;have y6:=hY.cell 6;unfold headC at y2 y3 y4 y5 y6;simp only [List.getElem?_toArray,List.getElem?_cons_zero,List.getElem?_cons_succ] at y2 y3 y4 y5 y6;have HY:=Lib.hid hY;have HS2:=Lib.hid hS2;clear hw hY hS2 x0 x1 x2 x3 x4 x5 x6 x7 x8 f0 f1 f2 f3 f4 f5 f6 f7 f8;refine HK1.out _ _ ?_
 refine wp_seq_k (fun K hK => ?_)
 have HK:=Lib.hid hK;clear hK HK1
 go_wp2
 obtain ⟨w3,hw⟩:∃ w3,w2.alloc (.cells #[.string ⟨#[]⟩,.string ⟨#[]⟩,.int .u8 (h1.kind.toNat:Int),.int .i64 h1.mode,.int .i64 h1.uid,.int .i64 h1.gid,.int .i64 h1.time,.slice none 0 0] 37)=w3:=⟨_,rfl⟩
 have hM:MM wr w3 g w2.heap.size h1 [] []:=by
  rw [← hw];exact ⟨HS2.out.alloc HS2.out.size _,HY.out.alloc _,Blk.new w2 _ _,HS2.out.size⟩
 rw [hw];clear hw
 by_cases h0e:e1=0
 ·subst h0e
  exact HK.out _ _ (mt51 HC.out hM HA0.out HB1.out.1 HB1.out.2.1 HB1.out.2.2 HRET.out HNX.out)
 ·exact HK.out _ _ (te51 HC.out hM.sn h0e (HRET.out e1 (by rw [HC.out.step];exact md_err HC.out.full HC.out.kind (mo_apply HA0.out h0e))))
end Go.Proofs.YtdjedimjhogdoaaGreatDoor.Mem
end
section
namespace Go.Proofs.YtdjedimjhogdoaaGreatDoor.Mem
open Go.ChangeShapes Go.WideShapes Go.ChangeAt Go.RowKit Base Byt Txt Bk Hp Head Num Path Block Attr Rec Go.Lib
set_option linter.unusedVariables false
set_option linter.unusedSectionVars false
set_option maxRecDepth 1000000
structure M0 (wa W1 wr:World) (bs:List UInt8) (a N c:Nat) (p:Option Addr) (s:RS) (vo:Value) (xs:List MP) (vg:Value) (q:Option Addr) (qn qd:Nat) (nm lk:List UInt8) (hx hl hk:Bool):Prop where
 b1:Below wa.heap.size wa W1
 rd:RRd W1 wr bs a s vo xs vg q qn qd nm lk hx hl hk
 box:Blk wr wa.heap.size 28 #[.int .i64 0,.int .i64 0]
 bat:BAt wr p N bs
 need:Need wr
 len:bs.length=N
 hN:N≤1000000000
 hc:N≤c
 hcm:c≤140737488351232
 ha:a≤N
structure MH (wr w:World) (a N g:Nat) (h:HeadV):Prop where
 sn:Below wr.heap.size wr w
 head:Blk w g 57 (headC h)
 gge:wr.heap.size≤g
 ha:a+512≤N
 bd:0≤h.size∧h.name.length≤1000∧h.link.length≤1000
theorem MH.kind {wr w:World} {a N g:Nat} {h:HeadV} (M:MH wr w a N g h) {k:UInt8} (hk:h.kind=k):w.cell? ⟨g,2,none⟩=some (.int .u8 (k.toNat:Int)):=by
 rw [M.head.cell 2,← hk];rfl
theorem MH.size {wr w:World} {a N g:Nat} {h:HeadV} (M:MH wr w a N g h) {z:Int} (hz:h.size=z):w.cell? ⟨g,7,none⟩=some (.int .i64 z):=by
 rw [M.head.cell 7,← hz];rfl
set_option maxHeartbeats 8000000 in
theorem mx26_76 {wa W1 wr:World} {bs:List UInt8} {a N c b0 o0:Nat} {s:RS} {vo:Value} {xs:List MP} {vg:Value} {q:Option Addr} {qn qd:Nat} {nm lk:ByteArray} {hx hl hk:Bool} {w:World} {g:Nat} {h:HeadV} {u1 u2 u13 u16 u17 u18 u19 u20 u21 u22 u23 u24 u25 u26 u27 u28 u29 u30 u31 u32 u33 u34 u35 u36 u37 u38 u39 u40 u41 u42 u43 u44 u45 u46 u47 u48 u49 u50 u51 u52 u53 u54 u55 u56 u57 u58 u59 u60 u61 u62 u63 u64 u65 u66 u67 u68 u69 u70 u71 u72 u73 u74 u75 u76 u77 u78 u79 u80 u81 u82 u83 u84 u85 u86 u87 u88 u89 u90 u91 u92 u93 u94 u95 u96 u97 u98 u99 u100 u101 u102 u103 u104 u105 u106 u107 u108 u109 u110 u111 u112 u113 u114 u115 u116 u117 u118 u119 u120 u121 u122 u123 u124 u125 u126 u127 u128 u129 u130 u131 u132 u133 u134 u135 u136 u137 u138 u139 u140 u141 u142 u143 u144 u145 u146 u147 u148 u149 u150 u151 u152 u153 u154 u155 u156 u157 u158 u159 u160 u161 u162 u163 u164 u165 u166 u167 u168 u169 u170 u171 u172 u173 u174 u175 u176 u177 u178 u179 u180 u181 u182 u183 u184 u185 u186 u187 u188 u189 u190 u191 u192 u193 u194 u195 u196 u197 u198 u199 u200 u201 u202 u203 u204 u205 u206 u207 u208 u209 u210 u211 u212 u213 u214 u215 u216 u217 u218 u219 u220 u221 u222 u223 u224 u225 u226 u227 u228 u229 u230 u231 u232 u233 u234 u235 u236 u237 u238 u239 u240 u241 u242 u243 u244 u245 u246 u247 u248 u249 u250 u251 u252 u253 u254 u255 u256 u257 u258 u259 u260 u261 u262 u263 u264 u265 u266 u267 u268 u269 u270 u271 u272 u273 u274 u275 u276 u277 u278 u279 u280 u281 u282 u283 u284 u285 u286 u287 u288 u289 u290 u291 u292 u293 u294 u295 u296 u297:Value} {Q:Exit → Act → World → Prop} (C:M0 wa W1 wr bs a N c (some ⟨b0,o0,none⟩) s vo xs vg q qn qd nm.data.toList lk.data.toList hx hl hk) (M:MH wr w a N g h) (hst:stepD (bs.drop a) s=extD (bs.drop a) h s) (hkd:h.kind=76) (hd0:¬ dupD h s) (hlg:¬ 1048576 < h.size) (hret:RetAll wa a bs s Q) (hnext:NextAll wa W1 bs a N c (some ⟨b0,o0,none⟩) Q (.exit 1)):Code.wp Tryz.prog (tailC 26) Q ⟨#[.slice (some ⟨b0,o0,none⟩) N c,u1,u2,.pointer (some ⟨wa.heap.size,0,none⟩),vo,vg,.slice q qn qd,.string nm,.string lk,.bool hx,.bool hl,.bool hk,.int .i64 (a:Int),u13,.int .i64 ((a:Int)+512),.pointer (some ⟨g,0,none⟩),u16,u17,u18,u19,u20,u21,u22,u23,u24,u25,u26,u27,u28,u29,u30,u31,u32,u33,u34,u35,u36,u37,u38,u39,u40,u41,u42,u43,u44,u45,u46,u47,u48,u49,u50,u51,u52,u53,u54,u55,u56,u57,u58,u59,u60,u61,u62,u63,u64,u65,u66,u67,u68,u69,u70,u71,u72,u73,u74,u75,u76,u77,u78,u79,u80,u81,u82,u83,u84,u85,u86,u87,u88,u89,u90,u91,u92,u93,u94,u95,u96,u97,u98,u99,u100,u101,u102,u103,u104,u105,u106,u107,u108,u109,u110,u111,u112,u113,u114,u115,u116,u117,u118,u119,u120,u121,u122,u123,u124,u125,u126,u127,u128,u129,u130,u131,u132,u133,u134,u135,u136,u137,u138,u139,u140,u141,u142,u143,u144,u145,u146,u147,u148,u149,u150,u151,u152,u153,u154,u155,u156,u157,u158,u159,u160,u161,u162,u163,u164,u165,u166,u167,u168,u169,u170,u171,u172,u173,u174,u175,u176,u177,u178,u179,u180,u181,u182,u183,u184,u185,u186,u187,u188,u189,u190,u191,u192,u193,u194,u195,u196,u197,u198,u199,u200,u201,u202,u203,u204,u205,u206,u207,u208,u209,u210,u211,u212,u213,u214,u215,u216,u217,u218,u219,u220,u221,u222,u223,u224,u225,u226,u227,u228,u229,u230,u231,u232,u233,u234,u235,u236,u237,u238,u239,u240,u241,u242,u243,u244,u245,u246,u247,u248,u249,u250,u251,u252,u253,u254,u255,u256,u257,u258,u259,u260,u261,u262,u263,u264,u265,u266,u267,u268,u269,u270,u271,u272,u273,u274,u275,u276,u277,u278,u279,u280,u281,u282,u283,u284,u285,u286,u287,u288,u289,u290,u291,u292,u293,u294,u295,u296,u297],[]⟩ w:=by
 have HC:=Lib.hid C;have HM:=Lib.hid M;have HRET:=Lib.hid hret;have HNX:=Lib.hid hnext;clear C M hret hnext;have HSX:=Lib.hid hst;have HKD:=Lib.hid hkd;have HD0:=Lib.hid hd0;have HLG:=Lib.hid hlg;obtain ⟨sz,hsz⟩:∃ sz:Nat,h.size=(sz:Int):=⟨h.size.toNat,by have:=HM.out.bd.1;omega⟩
 have c2k:w.cell? ⟨g,2,none⟩=some (.int .u8 76):=HM.out.kind hkd;have c7:=HM.out.size hsz;have HSZ:=Lib.hid hsz;have hsm:sz≤1048576:=by omega
 clear hst hkd hd0 hlg hsz;have hN:=HC.out.hN;have hNc:=HC.out.hc;have haN:=HM.out.ha;have hby:=rbody_any (some ⟨b0,o0,none⟩) N c bs w (a+512) (sz:Int) HC.out.len (by omega) hNc (by have:=HC.out.hcm;unfold maxLen;omega) (HC.out.bat.below HM.out.sn) (by omega) (by omega) (by omega)
 rw [show ((a+512:Nat):Int)=(a:Int)+512 by omega] at hby
 have HBY:=Lib.hid hby;clear hby
 conv => arg 2;whnf
 go_wp2_with fail
 refine HBY.out.mono ?_
 clear HBY;rintro e wz ⟨rfl,(⟨hno,rfl⟩ | ⟨hle,hbl,q1,d1,rfl,hqd,hdm,hbt⟩)⟩
 ·have E:Hid (stepD (bs.drop a) s=.fault 2):=Lib.hid (by
   rw [HSX.out];refine xd_short HD0.out (by have:=HLG.out;omega) (body_none ?_)
   rw [HSZ.out,List.length_drop,HC.out.len];rcases hno with hno | hno
   ·exact .inl hno
   ·exact .inr (by omega))
  clear hno;obtain ⟨r0,r1,f0,f1⟩:=box_at HC.out.box HM.out.sn
  go_wp2
  exact ret_at (HRET.out 2 E.out) HC.out.box HC.out.b1 HC.out.rd.bel HM.out.sn _ rfl rfl
 ·simp only [Int.toNat_natCast] at hbl hqd hbt ⊢
  obtain ⟨T,hT⟩:∃ T,(bs.drop (a+512)).take sz=T:=⟨_,rfl⟩;have hbg:=(blocks_ge sz).1
  have HBS:Hid (bodyN (bs.drop a) h.size=some (T,512+blocksOf sz)):=Lib.hid (by
   have:=body_some (L:=bs.drop a) (n:=h.size) (by rw [HSZ.out];exact hle) (by rw [HSZ.out,List.length_drop,HC.out.len,Int.toNat_natCast];omega)
   rw [this,HSZ.out,Int.toNat_natCast,List.drop_drop,hT])
  have hTl:T.length=sz:=by rw [← hT,List.length_take,List.length_drop,HC.out.len];omega
  rw [hT] at hbt;obtain ⟨tu,hto⟩:∃ tu,a+512+blocksOf sz=tu:=⟨_,rfl⟩;rw [hto];have HTO1:Hid (a < tu):=Lib.hid (by omega)
  have HTO2:Hid (tu≤N):=Lib.hid (by omega)
  have HTO:Hid (tu=a+(512+blocksOf sz)):=Lib.hid (by omega)
  have HBT:=Lib.hid hbt;have HTL:=Lib.hid hTl;clear hbl hbt hT hTl hto hle hdm hbg
  go_wp2_with fail
  refine (runtil_any q1 sz d1 T w HTL.out hqd (by omega) HBT.out).mono ?_
  rintro e wz ⟨rfl,rfl⟩;have HNW:=Lib.hid ((HC.out.rd.below HM.out.sn).nextL (k:=512+blocksOf sz) (t:=untilB T) (by rw [HSX.out];exact xd_name HKD.out HD0.out (by have:=HLG.out;omega) HBS.out) (Nat.le_trans (untilB_len T) (by rw [HTL.out];exact hsm)))
  rw [← HTO.out] at HNW
  go_wp2
  exact HNX.out _ _ tu _ _ _ _ _ _ _ (str (untilB T)) lk hx true hk (by rw [str_data];exact HNW.out) HTO1.out HTO2.out rfl rfl rfl rfl rfl rfl rfl rfl rfl rfl rfl rfl
set_option maxHeartbeats 8000000 in
theorem mx26_75 {wa W1 wr:World} {bs:List UInt8} {a N c b0 o0:Nat} {s:RS} {vo:Value} {xs:List MP} {vg:Value} {q:Option Addr} {qn qd:Nat} {nm lk:ByteArray} {hx hl hk:Bool} {w:World} {g:Nat} {h:HeadV} {u1 u2 u13 u16 u17 u18 u19 u20 u21 u22 u23 u24 u25 u26 u27 u28 u29 u30 u31 u32 u33 u34 u35 u36 u37 u38 u39 u40 u41 u42 u43 u44 u45 u46 u47 u48 u49 u50 u51 u52 u53 u54 u55 u56 u57 u58 u59 u60 u61 u62 u63 u64 u65 u66 u67 u68 u69 u70 u71 u72 u73 u74 u75 u76 u77 u78 u79 u80 u81 u82 u83 u84 u85 u86 u87 u88 u89 u90 u91 u92 u93 u94 u95 u96 u97 u98 u99 u100 u101 u102 u103 u104 u105 u106 u107 u108 u109 u110 u111 u112 u113 u114 u115 u116 u117 u118 u119 u120 u121 u122 u123 u124 u125 u126 u127 u128 u129 u130 u131 u132 u133 u134 u135 u136 u137 u138 u139 u140 u141 u142 u143 u144 u145 u146 u147 u148 u149 u150 u151 u152 u153 u154 u155 u156 u157 u158 u159 u160 u161 u162 u163 u164 u165 u166 u167 u168 u169 u170 u171 u172 u173 u174 u175 u176 u177 u178 u179 u180 u181 u182 u183 u184 u185 u186 u187 u188 u189 u190 u191 u192 u193 u194 u195 u196 u197 u198 u199 u200 u201 u202 u203 u204 u205 u206 u207 u208 u209 u210 u211 u212 u213 u214 u215 u216 u217 u218 u219 u220 u221 u222 u223 u224 u225 u226 u227 u228 u229 u230 u231 u232 u233 u234 u235 u236 u237 u238 u239 u240 u241 u242 u243 u244 u245 u246 u247 u248 u249 u250 u251 u252 u253 u254 u255 u256 u257 u258 u259 u260 u261 u262 u263 u264 u265 u266 u267 u268 u269 u270 u271 u272 u273 u274 u275 u276 u277 u278 u279 u280 u281 u282 u283 u284 u285 u286 u287 u288 u289 u290 u291 u292 u293 u294 u295 u296 u297:Value} {Q:Exit → Act → World → Prop} (C:M0 wa W1 wr bs a N c (some ⟨b0,o0,none⟩) s vo xs vg q qn qd nm.data.toList lk.data.toList hx hl hk) (M:MH wr w a N g h) (hst:stepD (bs.drop a) s=extD (bs.drop a) h s) (hkd:h.kind=75) (hd0:¬ dupD h s) (hlg:¬ 1048576 < h.size) (hret:RetAll wa a bs s Q) (hnext:NextAll wa W1 bs a N c (some ⟨b0,o0,none⟩) Q (.exit 1)):Code.wp Tryz.prog (tailC 26) Q ⟨#[.slice (some ⟨b0,o0,none⟩) N c,u1,u2,.pointer (some ⟨wa.heap.size,0,none⟩),vo,vg,.slice q qn qd,.string nm,.string lk,.bool hx,.bool hl,.bool hk,.int .i64 (a:Int),u13,.int .i64 ((a:Int)+512),.pointer (some ⟨g,0,none⟩),u16,u17,u18,u19,u20,u21,u22,u23,u24,u25,u26,u27,u28,u29,u30,u31,u32,u33,u34,u35,u36,u37,u38,u39,u40,u41,u42,u43,u44,u45,u46,u47,u48,u49,u50,u51,u52,u53,u54,u55,u56,u57,u58,u59,u60,u61,u62,u63,u64,u65,u66,u67,u68,u69,u70,u71,u72,u73,u74,u75,u76,u77,u78,u79,u80,u81,u82,u83,u84,u85,u86,u87,u88,u89,u90,u91,u92,u93,u94,u95,u96,u97,u98,u99,u100,u101,u102,u103,u104,u105,u106,u107,u108,u109,u110,u111,u112,u113,u114,u115,u116,u117,u118,u119,u120,u121,u122,u123,u124,u125,u126,u127,u128,u129,u130,u131,u132,u133,u134,u135,u136,u137,u138,u139,u140,u141,u142,u143,u144,u145,u146,u147,u148,u149,u150,u151,u152,u153,u154,u155,u156,u157,u158,u159,u160,u161,u162,u163,u164,u165,u166,u167,u168,u169,u170,u171,u172,u173,u174,u175,u176,u177,u178,u179,u180,u181,u182,u183,u184,u185,u186,u187,u188,u189,u190,u191,u192,u193,u194,u195,u196,u197,u198,u199,u200,u201,u202,u203,u204,u205,u206,u207,u208,u209,u210,u211,u212,u213,u214,u215,u216,u217,u218,u219,u220,u221,u222,u223,u224,u225,u226,u227,u228,u229,u230,u231,u232,u233,u234,u235,u236,u237,u238,u239,u240,u241,u242,u243,u244,u245,u246,u247,u248,u249,u250,u251,u252,u253,u254,u255,u256,u257,u258,u259,u260,u261,u262,u263,u264,u265,u266,u267,u268,u269,u270,u271,u272,u273,u274,u275,u276,u277,u278,u279,u280,u281,u282,u283,u284,u285,u286,u287,u288,u289,u290,u291,u292,u293,u294,u295,u296,u297],[]⟩ w:=by
 have HC:=Lib.hid C;have HM:=Lib.hid M;have HRET:=Lib.hid hret;have HNX:=Lib.hid hnext;clear C M hret hnext;have HSX:=Lib.hid hst;have HKD:=Lib.hid hkd;have HD0:=Lib.hid hd0;have HLG:=Lib.hid hlg;obtain ⟨sz,hsz⟩:∃ sz:Nat,h.size=(sz:Int):=⟨h.size.toNat,by have:=HM.out.bd.1;omega⟩
 have c2k:w.cell? ⟨g,2,none⟩=some (.int .u8 75):=HM.out.kind hkd;have c7:=HM.out.size hsz;have HSZ:=Lib.hid hsz;have hsm:sz≤1048576:=by omega
 clear hst hkd hd0 hlg hsz;have hN:=HC.out.hN;have hNc:=HC.out.hc;have haN:=HM.out.ha;have hby:=rbody_any (some ⟨b0,o0,none⟩) N c bs w (a+512) (sz:Int) HC.out.len (by omega) hNc (by have:=HC.out.hcm;unfold maxLen;omega) (HC.out.bat.below HM.out.sn) (by omega) (by omega) (by omega)
 rw [show ((a+512:Nat):Int)=(a:Int)+512 by omega] at hby
 have HBY:=Lib.hid hby;clear hby
 conv => arg 2;whnf
 go_wp2_with fail
 refine HBY.out.mono ?_
 clear HBY;rintro e wz ⟨rfl,(⟨hno,rfl⟩ | ⟨hle,hbl,q1,d1,rfl,hqd,hdm,hbt⟩)⟩
 ·have E:Hid (stepD (bs.drop a) s=.fault 2):=Lib.hid (by
   rw [HSX.out];refine xd_short HD0.out (by have:=HLG.out;omega) (body_none ?_)
   rw [HSZ.out,List.length_drop,HC.out.len];rcases hno with hno | hno
   ·exact .inl hno
   ·exact .inr (by omega))
  clear hno;obtain ⟨r0,r1,f0,f1⟩:=box_at HC.out.box HM.out.sn
  go_wp2
  exact ret_at (HRET.out 2 E.out) HC.out.box HC.out.b1 HC.out.rd.bel HM.out.sn _ rfl rfl
 ·simp only [Int.toNat_natCast] at hbl hqd hbt ⊢
  obtain ⟨T,hT⟩:∃ T,(bs.drop (a+512)).take sz=T:=⟨_,rfl⟩;have hbg:=(blocks_ge sz).1
  have HBS:Hid (bodyN (bs.drop a) h.size=some (T,512+blocksOf sz)):=Lib.hid (by
   have:=body_some (L:=bs.drop a) (n:=h.size) (by rw [HSZ.out];exact hle) (by rw [HSZ.out,List.length_drop,HC.out.len,Int.toNat_natCast];omega)
   rw [this,HSZ.out,Int.toNat_natCast,List.drop_drop,hT])
  have hTl:T.length=sz:=by rw [← hT,List.length_take,List.length_drop,HC.out.len];omega
  rw [hT] at hbt;obtain ⟨tu,hto⟩:∃ tu,a+512+blocksOf sz=tu:=⟨_,rfl⟩;rw [hto];have HTO1:Hid (a < tu):=Lib.hid (by omega)
  have HTO2:Hid (tu≤N):=Lib.hid (by omega)
  have HTO:Hid (tu=a+(512+blocksOf sz)):=Lib.hid (by omega)
  have HBT:=Lib.hid hbt;have HTL:=Lib.hid hTl;clear hbl hbt hT hTl hto hle hdm hbg
  go_wp2_with fail
  refine (runtil_any q1 sz d1 T w HTL.out hqd (by omega) HBT.out).mono ?_
  rintro e wz ⟨rfl,rfl⟩;have HNW:=Lib.hid ((HC.out.rd.below HM.out.sn).nextK (k:=512+blocksOf sz) (t:=untilB T) (by rw [HSX.out];exact xd_link HKD.out HD0.out (by have:=HLG.out;omega) HBS.out) (Nat.le_trans (untilB_len T) (by rw [HTL.out];exact hsm)))
  rw [← HTO.out] at HNW
  go_wp2
  exact HNX.out _ _ tu _ _ _ _ _ _ _ nm (str (untilB T)) hx hl true (by rw [str_data];exact HNW.out) HTO1.out HTO2.out rfl rfl rfl rfl rfl rfl rfl rfl rfl rfl rfl rfl
set_option maxHeartbeats 8000000 in
theorem mx26_120 {wa W1 wr:World} {bs:List UInt8} {a N c b0 o0:Nat} {s:RS} {vo:Value} {xs:List MP} {vg:Value} {q:Option Addr} {qn qd:Nat} {nm lk:ByteArray} {hx hl hk:Bool} {w:World} {g:Nat} {h:HeadV} {u1 u2 u13 u16 u17 u18 u19 u20 u21 u22 u23 u24 u25 u26 u27 u28 u29 u30 u31 u32 u33 u34 u35 u36 u37 u38 u39 u40 u41 u42 u43 u44 u45 u46 u47 u48 u49 u50 u51 u52 u53 u54 u55 u56 u57 u58 u59 u60 u61 u62 u63 u64 u65 u66 u67 u68 u69 u70 u71 u72 u73 u74 u75 u76 u77 u78 u79 u80 u81 u82 u83 u84 u85 u86 u87 u88 u89 u90 u91 u92 u93 u94 u95 u96 u97 u98 u99 u100 u101 u102 u103 u104 u105 u106 u107 u108 u109 u110 u111 u112 u113 u114 u115 u116 u117 u118 u119 u120 u121 u122 u123 u124 u125 u126 u127 u128 u129 u130 u131 u132 u133 u134 u135 u136 u137 u138 u139 u140 u141 u142 u143 u144 u145 u146 u147 u148 u149 u150 u151 u152 u153 u154 u155 u156 u157 u158 u159 u160 u161 u162 u163 u164 u165 u166 u167 u168 u169 u170 u171 u172 u173 u174 u175 u176 u177 u178 u179 u180 u181 u182 u183 u184 u185 u186 u187 u188 u189 u190 u191 u192 u193 u194 u195 u196 u197 u198 u199 u200 u201 u202 u203 u204 u205 u206 u207 u208 u209 u210 u211 u212 u213 u214 u215 u216 u217 u218 u219 u220 u221 u222 u223 u224 u225 u226 u227 u228 u229 u230 u231 u232 u233 u234 u235 u236 u237 u238 u239 u240 u241 u242 u243 u244 u245 u246 u247 u248 u249 u250 u251 u252 u253 u254 u255 u256 u257 u258 u259 u260 u261 u262 u263 u264 u265 u266 u267 u268 u269 u270 u271 u272 u273 u274 u275 u276 u277 u278 u279 u280 u281 u282 u283 u284 u285 u286 u287 u288 u289 u290 u291 u292 u293 u294 u295 u296 u297:Value} {Q:Exit → Act → World → Prop} (C:M0 wa W1 wr bs a N c (some ⟨b0,o0,none⟩) s vo xs vg q qn qd nm.data.toList lk.data.toList hx hl hk) (M:MH wr w a N g h) (hst:stepD (bs.drop a) s=extD (bs.drop a) h s) (hkd:h.kind=120) (hd0:¬ dupD h s) (hlg:¬ 1048576 < h.size) (hret:RetAll wa a bs s Q) (hnext:NextAll wa W1 bs a N c (some ⟨b0,o0,none⟩) Q (.exit 1)):Code.wp Tryz.prog (tailC 26) Q ⟨#[.slice (some ⟨b0,o0,none⟩) N c,u1,u2,.pointer (some ⟨wa.heap.size,0,none⟩),vo,vg,.slice q qn qd,.string nm,.string lk,.bool hx,.bool hl,.bool hk,.int .i64 (a:Int),u13,.int .i64 ((a:Int)+512),.pointer (some ⟨g,0,none⟩),u16,u17,u18,u19,u20,u21,u22,u23,u24,u25,u26,u27,u28,u29,u30,u31,u32,u33,u34,u35,u36,u37,u38,u39,u40,u41,u42,u43,u44,u45,u46,u47,u48,u49,u50,u51,u52,u53,u54,u55,u56,u57,u58,u59,u60,u61,u62,u63,u64,u65,u66,u67,u68,u69,u70,u71,u72,u73,u74,u75,u76,u77,u78,u79,u80,u81,u82,u83,u84,u85,u86,u87,u88,u89,u90,u91,u92,u93,u94,u95,u96,u97,u98,u99,u100,u101,u102,u103,u104,u105,u106,u107,u108,u109,u110,u111,u112,u113,u114,u115,u116,u117,u118,u119,u120,u121,u122,u123,u124,u125,u126,u127,u128,u129,u130,u131,u132,u133,u134,u135,u136,u137,u138,u139,u140,u141,u142,u143,u144,u145,u146,u147,u148,u149,u150,u151,u152,u153,u154,u155,u156,u157,u158,u159,u160,u161,u162,u163,u164,u165,u166,u167,u168,u169,u170,u171,u172,u173,u174,u175,u176,u177,u178,u179,u180,u181,u182,u183,u184,u185,u186,u187,u188,u189,u190,u191,u192,u193,u194,u195,u196,u197,u198,u199,u200,u201,u202,u203,u204,u205,u206,u207,u208,u209,u210,u211,u212,u213,u214,u215,u216,u217,u218,u219,u220,u221,u222,u223,u224,u225,u226,u227,u228,u229,u230,u231,u232,u233,u234,u235,u236,u237,u238,u239,u240,u241,u242,u243,u244,u245,u246,u247,u248,u249,u250,u251,u252,u253,u254,u255,u256,u257,u258,u259,u260,u261,u262,u263,u264,u265,u266,u267,u268,u269,u270,u271,u272,u273,u274,u275,u276,u277,u278,u279,u280,u281,u282,u283,u284,u285,u286,u287,u288,u289,u290,u291,u292,u293,u294,u295,u296,u297],[]⟩ w:=by
 have HC:=Lib.hid C;have HM:=Lib.hid M;have HRET:=Lib.hid hret;have HNX:=Lib.hid hnext;clear C M hret hnext;have HSX:=Lib.hid hst;have HKD:=Lib.hid hkd;have HD0:=Lib.hid hd0;have HLG:=Lib.hid hlg;obtain ⟨sz,hsz⟩:∃ sz:Nat,h.size=(sz:Int):=⟨h.size.toNat,by have:=HM.out.bd.1;omega⟩
 have c2k:w.cell? ⟨g,2,none⟩=some (.int .u8 120):=HM.out.kind hkd;have c7:=HM.out.size hsz;have HSZ:=Lib.hid hsz;have hsm:sz≤1048576:=by omega
 clear hst hkd hd0 hlg hsz;have hN:=HC.out.hN;have hNc:=HC.out.hc;have haN:=HM.out.ha;have hby:=rbody_any (some ⟨b0,o0,none⟩) N c bs w (a+512) (sz:Int) HC.out.len (by omega) hNc (by have:=HC.out.hcm;unfold maxLen;omega) (HC.out.bat.below HM.out.sn) (by omega) (by omega) (by omega)
 rw [show ((a+512:Nat):Int)=(a:Int)+512 by omega] at hby
 have HBY:=Lib.hid hby;clear hby
 conv => arg 2;whnf
 go_wp2_with fail
 refine HBY.out.mono ?_
 clear HBY;rintro e wz ⟨rfl,(⟨hno,rfl⟩ | ⟨hle,hbl,q1,d1,rfl,hqd,hdm,hbt⟩)⟩
 ·have E:Hid (stepD (bs.drop a) s=.fault 2):=Lib.hid (by
   rw [HSX.out];refine xd_short HD0.out (by have:=HLG.out;omega) (body_none ?_)
   rw [HSZ.out,List.length_drop,HC.out.len];rcases hno with hno | hno
   ·exact .inl hno
   ·exact .inr (by omega))
  clear hno;obtain ⟨r0,r1,f0,f1⟩:=box_at HC.out.box HM.out.sn
  go_wp2
  exact ret_at (HRET.out 2 E.out) HC.out.box HC.out.b1 HC.out.rd.bel HM.out.sn _ rfl rfl
 ·simp only [Int.toNat_natCast] at hbl hqd hbt ⊢
  obtain ⟨T,hT⟩:∃ T,(bs.drop (a+512)).take sz=T:=⟨_,rfl⟩;have hbg:=(blocks_ge sz).1
  have HBS:Hid (bodyN (bs.drop a) h.size=some (T,512+blocksOf sz)):=Lib.hid (by
   have:=body_some (L:=bs.drop a) (n:=h.size) (by rw [HSZ.out];exact hle) (by rw [HSZ.out,List.length_drop,HC.out.len,Int.toNat_natCast];omega)
   rw [this,HSZ.out,Int.toNat_natCast,List.drop_drop,hT])
  have hTl:T.length=sz:=by rw [← hT,List.length_take,List.length_drop,HC.out.len];omega
  rw [hT] at hbt;obtain ⟨tu,hto⟩:∃ tu,a+512+blocksOf sz=tu:=⟨_,rfl⟩;rw [hto];have HTO1:Hid (a < tu):=Lib.hid (by omega)
  have HTO2:Hid (tu≤N):=Lib.hid (by omega)
  have HTO:Hid (tu=a+(512+blocksOf sz)):=Lib.hid (by omega)
  have HBT:=Lib.hid hbt;have HTL:=Lib.hid hTl;clear hbl hbt hT hTl hto hle hdm hbg;obtain ⟨⟨rs,f⟩,hrs⟩:∃ x,recsD 5 9 T=x:=⟨_,rfl⟩;have hrc:=records_new q1 sz d1 T w HTL.out hqd (by omega) HBT.out
  unfold RecsPostN at hrc;rw [hrs] at hrc;have hln:=recsD_len 5 9 T;rw [hrs,HTL.out] at hln;have HLNR:Hid ((∀ r ∈ rs,r.2.length≤1048576)∧rs.length≤sz):=Lib.hid ⟨fun r hr => by have:=hln.1 r hr;omega,hln.2⟩
  have HRC:=Lib.hid hrc;have HRS:=Lib.hid hrs;clear hrc hrs hln
  go_wp2_with fail
  refine HRC.out.mono ?_
  clear HRC;rintro e w4 ⟨p5,c5,rfl,hlc,hcm5,hra,hb4,hnew⟩;have HB4:=Lib.hid (HM.out.sn.trans (hb4.mono HM.out.sn.size));have HRA:=Lib.hid hra;have HNW:=Lib.hid hnew;have c2w:w4.cell? ⟨g,2,none⟩=some (.int .u8 120):=by rw [hb4.cell (p:=⟨g,2,none⟩) HM.out.head.lt];exact c2k
  clear hra hnew hb4 c2k c7
  by_cases hf:f=0
  case neg =>
   have hfz:(f != 0)=true:=by simpa using hf
   have E:Hid (stepD (bs.drop a) s=.fault f):=Lib.hid (by rw [HSX.out];exact xd_bad (.inl HKD.out) HD0.out (by have:=HLG.out;omega) HBS.out HRS.out hf)
   clear hf;obtain ⟨r0,r1,f0,f1⟩:=box_at HC.out.box HB4.out
   go_wp2
   exact ret_at (HRET.out f E.out) HC.out.box HC.out.b1 HC.out.rd.bel HB4.out _ rfl rfl
  case pos =>
   subst hf;have HN2:=Lib.hid ((HC.out.rd.below HB4.out).nextX (k:=512+blocksOf sz) (rs:=rs) (by rw [HSX.out];exact xd_own HKD.out HD0.out (by have:=HLG.out;omega) HBS.out HRS.out) HLNR.out.1 (Nat.le_trans HLNR.out.2 hsm) (HC.out.rd.below HM.out.sn) (c':=c5) HRA.out HNW.out)
   rw [← HTO.out] at HN2
   go_wp2
   exact HNX.out _ _ tu _ _ _ _ p5 rs.length c5 nm lk true hl hk HN2.out HTO1.out HTO2.out rfl rfl rfl rfl rfl rfl rfl rfl rfl rfl rfl rfl
set_option maxHeartbeats 8000000 in
theorem mx26_103 {wa W1 wr:World} {bs:List UInt8} {a N c b0 o0:Nat} {s:RS} {vo:Value} {xs:List MP} {vg:Value} {q:Option Addr} {qn qd:Nat} {nm lk:ByteArray} {hx hl hk:Bool} {w:World} {g:Nat} {h:HeadV} {u1 u2 u13 u16 u17 u18 u19 u20 u21 u22 u23 u24 u25 u26 u27 u28 u29 u30 u31 u32 u33 u34 u35 u36 u37 u38 u39 u40 u41 u42 u43 u44 u45 u46 u47 u48 u49 u50 u51 u52 u53 u54 u55 u56 u57 u58 u59 u60 u61 u62 u63 u64 u65 u66 u67 u68 u69 u70 u71 u72 u73 u74 u75 u76 u77 u78 u79 u80 u81 u82 u83 u84 u85 u86 u87 u88 u89 u90 u91 u92 u93 u94 u95 u96 u97 u98 u99 u100 u101 u102 u103 u104 u105 u106 u107 u108 u109 u110 u111 u112 u113 u114 u115 u116 u117 u118 u119 u120 u121 u122 u123 u124 u125 u126 u127 u128 u129 u130 u131 u132 u133 u134 u135 u136 u137 u138 u139 u140 u141 u142 u143 u144 u145 u146 u147 u148 u149 u150 u151 u152 u153 u154 u155 u156 u157 u158 u159 u160 u161 u162 u163 u164 u165 u166 u167 u168 u169 u170 u171 u172 u173 u174 u175 u176 u177 u178 u179 u180 u181 u182 u183 u184 u185 u186 u187 u188 u189 u190 u191 u192 u193 u194 u195 u196 u197 u198 u199 u200 u201 u202 u203 u204 u205 u206 u207 u208 u209 u210 u211 u212 u213 u214 u215 u216 u217 u218 u219 u220 u221 u222 u223 u224 u225 u226 u227 u228 u229 u230 u231 u232 u233 u234 u235 u236 u237 u238 u239 u240 u241 u242 u243 u244 u245 u246 u247 u248 u249 u250 u251 u252 u253 u254 u255 u256 u257 u258 u259 u260 u261 u262 u263 u264 u265 u266 u267 u268 u269 u270 u271 u272 u273 u274 u275 u276 u277 u278 u279 u280 u281 u282 u283 u284 u285 u286 u287 u288 u289 u290 u291 u292 u293 u294 u295 u296 u297:Value} {Q:Exit → Act → World → Prop} (C:M0 wa W1 wr bs a N c (some ⟨b0,o0,none⟩) s vo xs vg q qn qd nm.data.toList lk.data.toList hx hl hk) (M:MH wr w a N g h) (hst:stepD (bs.drop a) s=extD (bs.drop a) h s) (hkd:h.kind=103) (hd0:¬ dupD h s) (hlg:¬ 1048576 < h.size) (hret:RetAll wa a bs s Q) (hnext:NextAll wa W1 bs a N c (some ⟨b0,o0,none⟩) Q (.exit 1)):Code.wp Tryz.prog (tailC 26) Q ⟨#[.slice (some ⟨b0,o0,none⟩) N c,u1,u2,.pointer (some ⟨wa.heap.size,0,none⟩),vo,vg,.slice q qn qd,.string nm,.string lk,.bool hx,.bool hl,.bool hk,.int .i64 (a:Int),u13,.int .i64 ((a:Int)+512),.pointer (some ⟨g,0,none⟩),u16,u17,u18,u19,u20,u21,u22,u23,u24,u25,u26,u27,u28,u29,u30,u31,u32,u33,u34,u35,u36,u37,u38,u39,u40,u41,u42,u43,u44,u45,u46,u47,u48,u49,u50,u51,u52,u53,u54,u55,u56,u57,u58,u59,u60,u61,u62,u63,u64,u65,u66,u67,u68,u69,u70,u71,u72,u73,u74,u75,u76,u77,u78,u79,u80,u81,u82,u83,u84,u85,u86,u87,u88,u89,u90,u91,u92,u93,u94,u95,u96,u97,u98,u99,u100,u101,u102,u103,u104,u105,u106,u107,u108,u109,u110,u111,u112,u113,u114,u115,u116,u117,u118,u119,u120,u121,u122,u123,u124,u125,u126,u127,u128,u129,u130,u131,u132,u133,u134,u135,u136,u137,u138,u139,u140,u141,u142,u143,u144,u145,u146,u147,u148,u149,u150,u151,u152,u153,u154,u155,u156,u157,u158,u159,u160,u161,u162,u163,u164,u165,u166,u167,u168,u169,u170,u171,u172,u173,u174,u175,u176,u177,u178,u179,u180,u181,u182,u183,u184,u185,u186,u187,u188,u189,u190,u191,u192,u193,u194,u195,u196,u197,u198,u199,u200,u201,u202,u203,u204,u205,u206,u207,u208,u209,u210,u211,u212,u213,u214,u215,u216,u217,u218,u219,u220,u221,u222,u223,u224,u225,u226,u227,u228,u229,u230,u231,u232,u233,u234,u235,u236,u237,u238,u239,u240,u241,u242,u243,u244,u245,u246,u247,u248,u249,u250,u251,u252,u253,u254,u255,u256,u257,u258,u259,u260,u261,u262,u263,u264,u265,u266,u267,u268,u269,u270,u271,u272,u273,u274,u275,u276,u277,u278,u279,u280,u281,u282,u283,u284,u285,u286,u287,u288,u289,u290,u291,u292,u293,u294,u295,u296,u297],[]⟩ w:=by
 have HC:=Lib.hid C;have HM:=Lib.hid M;have HRET:=Lib.hid hret;have HNX:=Lib.hid hnext;clear C M hret hnext;have HSX:=Lib.hid hst;have HKD:=Lib.hid hkd;have HD0:=Lib.hid hd0;have HLG:=Lib.hid hlg;obtain ⟨sz,hsz⟩:∃ sz:Nat,h.size=(sz:Int):=⟨h.size.toNat,by have:=HM.out.bd.1;omega⟩
 have c2k:w.cell? ⟨g,2,none⟩=some (.int .u8 103):=HM.out.kind hkd;have c7:=HM.out.size hsz;have HSZ:=Lib.hid hsz;have hsm:sz≤1048576:=by omega
 clear hst hkd hd0 hlg hsz;have hN:=HC.out.hN;have hNc:=HC.out.hc;have haN:=HM.out.ha;have hby:=rbody_any (some ⟨b0,o0,none⟩) N c bs w (a+512) (sz:Int) HC.out.len (by omega) hNc (by have:=HC.out.hcm;unfold maxLen;omega) (HC.out.bat.below HM.out.sn) (by omega) (by omega) (by omega)
 rw [show ((a+512:Nat):Int)=(a:Int)+512 by omega] at hby
 have HBY:=Lib.hid hby;clear hby
 conv => arg 2;whnf
 go_wp2_with fail
 refine HBY.out.mono ?_
 clear HBY;rintro e wz ⟨rfl,(⟨hno,rfl⟩ | ⟨hle,hbl,q1,d1,rfl,hqd,hdm,hbt⟩)⟩
 ·have E:Hid (stepD (bs.drop a) s=.fault 2):=Lib.hid (by
   rw [HSX.out];refine xd_short HD0.out (by have:=HLG.out;omega) (body_none ?_)
   rw [HSZ.out,List.length_drop,HC.out.len];rcases hno with hno | hno
   ·exact .inl hno
   ·exact .inr (by omega))
  clear hno;obtain ⟨r0,r1,f0,f1⟩:=box_at HC.out.box HM.out.sn
  go_wp2
  exact ret_at (HRET.out 2 E.out) HC.out.box HC.out.b1 HC.out.rd.bel HM.out.sn _ rfl rfl
 ·simp only [Int.toNat_natCast] at hbl hqd hbt ⊢
  obtain ⟨T,hT⟩:∃ T,(bs.drop (a+512)).take sz=T:=⟨_,rfl⟩;have hbg:=(blocks_ge sz).1
  have HBS:Hid (bodyN (bs.drop a) h.size=some (T,512+blocksOf sz)):=Lib.hid (by
   have:=body_some (L:=bs.drop a) (n:=h.size) (by rw [HSZ.out];exact hle) (by rw [HSZ.out,List.length_drop,HC.out.len,Int.toNat_natCast];omega)
   rw [this,HSZ.out,Int.toNat_natCast,List.drop_drop,hT])
  have hTl:T.length=sz:=by rw [← hT,List.length_take,List.length_drop,HC.out.len];omega
  rw [hT] at hbt;obtain ⟨tu,hto⟩:∃ tu,a+512+blocksOf sz=tu:=⟨_,rfl⟩;rw [hto];have HTO1:Hid (a < tu):=Lib.hid (by omega)
  have HTO2:Hid (tu≤N):=Lib.hid (by omega)
  have HTO:Hid (tu=a+(512+blocksOf sz)):=Lib.hid (by omega)
  have HBT:=Lib.hid hbt;have HTL:=Lib.hid hTl;clear hbl hbt hT hTl hto hle hdm hbg;obtain ⟨⟨rs,f⟩,hrs⟩:∃ x,recsD 5 9 T=x:=⟨_,rfl⟩;have hrc:=records_new q1 sz d1 T w HTL.out hqd (by omega) HBT.out
  unfold RecsPostN at hrc;rw [hrs] at hrc;have hln:=recsD_len 5 9 T;rw [hrs,HTL.out] at hln;have HLNR:Hid ((∀ r ∈ rs,r.2.length≤1048576)∧rs.length≤sz):=Lib.hid ⟨fun r hr => by have:=hln.1 r hr;omega,hln.2⟩
  have HRC:=Lib.hid hrc;have HRS:=Lib.hid hrs;clear hrc hrs hln
  go_wp2_with fail
  refine HRC.out.mono ?_
  clear HRC;rintro e w4 ⟨p5,c5,rfl,hlc,hcm5,hra,hb4,hnew⟩;have HB4:=Lib.hid (HM.out.sn.trans (hb4.mono HM.out.sn.size));have HRA:=Lib.hid hra;have HNW:=Lib.hid hnew;have c2w:w4.cell? ⟨g,2,none⟩=some (.int .u8 103):=by rw [hb4.cell (p:=⟨g,2,none⟩) HM.out.head.lt];exact c2k
  clear hra hnew hb4 c2k c7
  by_cases hf:f=0
  case neg =>
   have hfz:(f != 0)=true:=by simpa using hf
   have E:Hid (stepD (bs.drop a) s=.fault f):=Lib.hid (by rw [HSX.out];exact xd_bad (.inr HKD.out) HD0.out (by have:=HLG.out;omega) HBS.out HRS.out hf)
   clear hf;obtain ⟨r0,r1,f0,f1⟩:=box_at HC.out.box HB4.out
   go_wp2
   exact ret_at (HRET.out f E.out) HC.out.box HC.out.b1 HC.out.rd.bel HB4.out _ rfl rfl
  case pos =>
   subst hf;have HG4:=Lib.hid (HC.out.rd.below HB4.out).glob;have HGZ:=Lib.hid HC.out.rd.gsz;have HSZ4:=Lib.hid (HC.out.rd.below HB4.out).bel.size
   go_wp2_with (at_builtin;refine append_recs_new rfl _ _ rfl W1.heap.size _ s.glob.length s.glob rfl rfl HG4.out p5 rs.length c5 rs rfl HRA.out ?e1 HSZ4.out ?_)
   case e1 => have:=HGZ.out;have:=HLNR.out.2;omega
   intro v5 w5 hrow hgr hnw;rw [show List.length s.glob+rs.length=List.length (s.glob++rs) by rw [List.length_append]] at hrow
   have HN2:=Lib.hid ((HC.out.rd.below HB4.out).nextG (k:=512+blocksOf sz) (rs:=rs) (by rw [HSX.out];exact xd_glob HKD.out HD0.out (by have:=HLG.out;omega) HBS.out HRS.out) HLNR.out.1 (by have:=HLNR.out.2;have:=(blocks_ge sz).1;omega) hrow hgr hnw)
   rw [← HTO.out] at HN2;clear hrow hgr hnw
   go_wp2
   exact HNX.out _ _ tu _ _ _ _ q qn qd nm lk hx hl hk HN2.out HTO1.out HTO2.out rfl rfl rfl rfl rfl rfl rfl rfl rfl rfl rfl rfl
set_option maxHeartbeats 4000000 in
theorem mx24 {wa W1 wr:World} {bs:List UInt8} {a N c b0 o0:Nat} {s:RS} {vo:Value} {xs:List MP} {vg:Value} {q:Option Addr} {qn qd:Nat} {nm lk:ByteArray} {hx hl hk:Bool} {w:World} {g:Nat} {h:HeadV} {u1 u2 u13 u16 u17 u18 u19 u20 u21 u22 u23 u24 u25 u26 u27 u28 u29 u30 u31 u32 u33 u34 u35 u36 u37 u38 u39 u40 u41 u42 u43 u44 u45 u46 u47 u48 u49 u50 u51 u52 u53 u54 u55 u56 u57 u58 u59 u60 u61 u62 u63 u64 u65 u66 u67 u68 u69 u70 u71 u72 u73 u74 u75 u76 u77 u78 u79 u80 u81 u82 u83 u84 u85 u86 u87 u88 u89 u90 u91 u92 u93 u94 u95 u96 u97 u98 u99 u100 u101 u102 u103 u104 u105 u106 u107 u108 u109 u110 u111 u112 u113 u114 u115 u116 u117 u118 u119 u120 u121 u122 u123 u124 u125 u126 u127 u128 u129 u130 u131 u132 u133 u134 u135 u136 u137 u138 u139 u140 u141 u142 u143 u144 u145 u146 u147 u148 u149 u150 u151 u152 u153 u154 u155 u156 u157 u158 u159 u160 u161 u162 u163 u164 u165 u166 u167 u168 u169 u170 u171 u172 u173 u174 u175 u176 u177 u178 u179 u180 u181 u182 u183 u184 u185 u186 u187 u188 u189 u190 u191 u192 u193 u194 u195 u196 u197 u198 u199 u200 u201 u202 u203 u204 u205 u206 u207 u208 u209 u210 u211 u212 u213 u214 u215 u216 u217 u218 u219 u220 u221 u222 u223 u224 u225 u226 u227 u228 u229 u230 u231 u232 u233 u234 u235 u236 u237 u238 u239 u240 u241 u242 u243 u244 u245 u246 u247 u248 u249 u250 u251 u252 u253 u254 u255 u256 u257 u258 u259 u260 u261 u262 u263 u264 u265 u266 u267 u268 u269 u270 u271 u272 u273 u274 u275 u276 u277 u278 u279 u280 u281 u282 u283 u284 u285 u286 u287 u288 u289 u290 u291 u292 u293 u294 u295 u296 u297:Value} {Q:Exit → Act → World → Prop} (C:M0 wa W1 wr bs a N c (some ⟨b0,o0,none⟩) s vo xs vg q qn qd nm.data.toList lk.data.toList hx hl hk) (M:MH wr w a N g h) (hst:stepD (bs.drop a) s=extD (bs.drop a) h s) (hkd:h.kind=120 ∨ h.kind=76 ∨ h.kind=75 ∨ h.kind=103) (hd0:¬ dupD h s) (hret:RetAll wa a bs s Q) (hnext:NextAll wa W1 bs a N c (some ⟨b0,o0,none⟩) Q (.exit 1)):Code.wp Tryz.prog (tailC 24) Q ⟨#[.slice (some ⟨b0,o0,none⟩) N c,u1,u2,.pointer (some ⟨wa.heap.size,0,none⟩),vo,vg,.slice q qn qd,.string nm,.string lk,.bool hx,.bool hl,.bool hk,.int .i64 (a:Int),u13,.int .i64 ((a:Int)+512),.pointer (some ⟨g,0,none⟩),u16,u17,u18,u19,u20,u21,u22,u23,u24,u25,u26,u27,u28,u29,u30,u31,u32,u33,u34,u35,u36,u37,u38,u39,u40,u41,u42,u43,u44,u45,u46,u47,u48,u49,u50,u51,u52,u53,u54,u55,u56,u57,u58,u59,u60,u61,u62,u63,u64,u65,u66,u67,u68,u69,u70,u71,u72,u73,u74,u75,u76,u77,u78,u79,u80,u81,u82,u83,u84,u85,u86,u87,u88,u89,u90,u91,u92,u93,u94,u95,u96,u97,u98,u99,u100,u101,u102,u103,u104,u105,u106,u107,u108,u109,u110,u111,u112,u113,u114,u115,u116,u117,u118,u119,u120,u121,u122,u123,u124,u125,u126,u127,u128,u129,u130,u131,u132,u133,u134,u135,u136,u137,u138,u139,u140,u141,u142,u143,u144,u145,u146,u147,u148,u149,u150,u151,u152,u153,u154,u155,u156,u157,u158,u159,u160,u161,u162,u163,u164,u165,u166,u167,u168,u169,u170,u171,u172,u173,u174,u175,u176,u177,u178,u179,u180,u181,u182,u183,u184,u185,u186,u187,u188,u189,u190,u191,u192,u193,u194,u195,u196,u197,u198,u199,u200,u201,u202,u203,u204,u205,u206,u207,u208,u209,u210,u211,u212,u213,u214,u215,u216,u217,u218,u219,u220,u221,u222,u223,u224,u225,u226,u227,u228,u229,u230,u231,u232,u233,u234,u235,u236,u237,u238,u239,u240,u241,u242,u243,u244,u245,u246,u247,u248,u249,u250,u251,u252,u253,u254,u255,u256,u257,u258,u259,u260,u261,u262,u263,u264,u265,u266,u267,u268,u269,u270,u271,u272,u273,u274,u275,u276,u277,u278,u279,u280,u281,u282,u283,u284,u285,u286,u287,u288,u289,u290,u291,u292,u293,u294,u295,u296,u297],[]⟩ w:=by
 have HC:=Lib.hid C;have HM:=Lib.hid M;have HRET:=Lib.hid hret;have HNX:=Lib.hid hnext;clear C M hret hnext;have HSX:=Lib.hid hst;have HKD:=Lib.hid hkd;have HD0:=Lib.hid hd0;have c7:=HM.out.size rfl;clear hst hkd hd0
 conv => arg 2;whnf
 refine wp_seq_k (fun K hK => ?_)
 have HK:=Lib.hid hK;clear hK
 by_cases hlg:1048576 < h.size
 ·have HL:=Lib.hid hlg
  have E:Hid (stepD (bs.drop a) s=.fault 10):=Lib.hid (by rw [HSX.out];exact xd_large HD0.out HL.out)
  obtain ⟨r0,r1,f0,f1⟩:=box_at HC.out.box HM.out.sn
  go_wp2
  exact ret_at (HRET.out 10 E.out) HC.out.box HC.out.b1 HC.out.rd.bel HM.out.sn _ rfl rfl
 ·have HL:Hid (¬ 1048576 < h.size):=Lib.hid hlg
  go_wp2
  rcases HKD.out with hk' | hk' | hk' | hk'
  ·exact HK.out _ _ (mx26_120 HC.out HM.out HSX.out hk' HD0.out (by have:=HL.out;omega) HRET.out HNX.out)
  ·exact HK.out _ _ (mx26_76 HC.out HM.out HSX.out hk' HD0.out (by have:=HL.out;omega) HRET.out HNX.out)
  ·exact HK.out _ _ (mx26_75 HC.out HM.out HSX.out hk' HD0.out (by have:=HL.out;omega) HRET.out HNX.out)
  ·exact HK.out _ _ (mx26_103 HC.out HM.out HSX.out hk' HD0.out (by have:=HL.out;omega) HRET.out HNX.out)
set_option maxHeartbeats 4000000 in
theorem mx22_120 {wa W1 wr:World} {bs:List UInt8} {a N c b0 o0:Nat} {s:RS} {vo:Value} {xs:List MP} {vg:Value} {q:Option Addr} {qn qd:Nat} {nm lk:ByteArray} {hx hl hk:Bool} {w:World} {g:Nat} {h:HeadV} {u1 u2 u13 u16 u17 u18 u19 u20 u21 u22 u23 u24 u25 u26 u27 u28 u29 u30 u31 u32 u33 u34 u35 u36 u37 u38 u39 u40 u41 u42 u43 u44 u45 u46 u47 u48 u49 u50 u51 u52 u53 u54 u55 u56 u57 u58 u59 u60 u61 u62 u63 u64 u65 u66 u67 u68 u69 u70 u71 u72 u73 u74 u75 u76 u77 u78 u79 u80 u81 u82 u83 u84 u85 u86 u87 u88 u89 u90 u91 u92 u93 u94 u95 u96 u97 u98 u99 u100 u101 u102 u103 u104 u105 u106 u107 u108 u109 u110 u111 u112 u113 u114 u115 u116 u117 u118 u119 u120 u121 u122 u123 u124 u125 u126 u127 u128 u129 u130 u131 u132 u133 u134 u135 u136 u137 u138 u139 u140 u141 u142 u143 u144 u145 u146 u147 u148 u149 u150 u151 u152 u153 u154 u155 u156 u157 u158 u159 u160 u161 u162 u163 u164 u165 u166 u167 u168 u169 u170 u171 u172 u173 u174 u175 u176 u177 u178 u179 u180 u181 u182 u183 u184 u185 u186 u187 u188 u189 u190 u191 u192 u193 u194 u195 u196 u197 u198 u199 u200 u201 u202 u203 u204 u205 u206 u207 u208 u209 u210 u211 u212 u213 u214 u215 u216 u217 u218 u219 u220 u221 u222 u223 u224 u225 u226 u227 u228 u229 u230 u231 u232 u233 u234 u235 u236 u237 u238 u239 u240 u241 u242 u243 u244 u245 u246 u247 u248 u249 u250 u251 u252 u253 u254 u255 u256 u257 u258 u259 u260 u261 u262 u263 u264 u265 u266 u267 u268 u269 u270 u271 u272 u273 u274 u275 u276 u277 u278 u279 u280 u281 u282 u283 u284 u285 u286 u287 u288 u289 u290 u291 u292 u293 u294 u295 u296 u297:Value} {Q:Exit → Act → World → Prop} (C:M0 wa W1 wr bs a N c (some ⟨b0,o0,none⟩) s vo xs vg q qn qd nm.data.toList lk.data.toList hx hl hk) (M:MH wr w a N g h) (hst:stepD (bs.drop a) s=extD (bs.drop a) h s) (hkd:h.kind=120) (hret:RetAll wa a bs s Q) (hnext:NextAll wa W1 bs a N c (some ⟨b0,o0,none⟩) Q (.exit 1)):Code.wp Tryz.prog (tailC 22) Q ⟨#[.slice (some ⟨b0,o0,none⟩) N c,u1,u2,.pointer (some ⟨wa.heap.size,0,none⟩),vo,vg,.slice q qn qd,.string nm,.string lk,.bool hx,.bool hl,.bool hk,.int .i64 (a:Int),u13,.int .i64 ((a:Int)+512),.pointer (some ⟨g,0,none⟩),u16,u17,u18,u19,u20,u21,u22,u23,u24,u25,u26,u27,u28,u29,u30,u31,u32,u33,u34,u35,u36,u37,u38,u39,u40,u41,u42,u43,u44,u45,u46,u47,u48,u49,u50,u51,u52,u53,u54,u55,u56,u57,u58,u59,u60,u61,u62,u63,u64,u65,u66,u67,u68,u69,u70,u71,u72,u73,u74,u75,u76,u77,u78,u79,u80,u81,u82,u83,u84,u85,u86,u87,u88,u89,u90,u91,u92,u93,u94,u95,u96,u97,u98,u99,u100,u101,u102,u103,u104,u105,u106,u107,u108,u109,u110,u111,u112,u113,u114,u115,u116,u117,u118,u119,u120,u121,u122,u123,u124,u125,u126,u127,u128,u129,u130,u131,u132,u133,u134,u135,u136,u137,u138,u139,u140,u141,u142,u143,u144,u145,u146,u147,u148,u149,u150,u151,u152,u153,u154,u155,u156,u157,u158,u159,u160,u161,u162,u163,u164,u165,u166,u167,u168,u169,u170,u171,u172,u173,u174,u175,u176,u177,u178,u179,u180,u181,u182,u183,u184,u185,u186,u187,u188,u189,u190,u191,u192,u193,u194,u195,u196,u197,u198,u199,u200,u201,u202,u203,u204,u205,u206,u207,u208,u209,u210,u211,u212,u213,u214,u215,u216,u217,u218,u219,u220,u221,u222,u223,u224,u225,u226,u227,u228,u229,u230,u231,u232,u233,u234,u235,u236,u237,u238,u239,u240,u241,u242,u243,u244,u245,u246,u247,u248,u249,u250,u251,u252,u253,u254,u255,u256,u257,u258,u259,u260,u261,u262,u263,u264,u265,u266,u267,u268,u269,u270,u271,u272,u273,u274,u275,u276,u277,u278,u279,u280,u281,u282,u283,u284,u285,u286,u287,u288,u289,u290,u291,u292,u293,u294,u295,u296,u297],[]⟩ w:=by
 have HC:=Lib.hid C;have HM:=Lib.hid M;have HRET:=Lib.hid hret;have HNX:=Lib.hid hnext;clear C M hret hnext;have HSX:=Lib.hid hst;have HKD:=Lib.hid hkd;have c2k:w.cell? ⟨g,2,none⟩=some (.int .u8 120):=HM.out.kind hkd;clear hst hkd
 conv => arg 2;whnf
 refine wp_seq_k (fun K hK => ?_)
 have HK:=Lib.hid hK;clear hK
 cases hx with
 | true =>
   have E:Hid (stepD (bs.drop a) s=.fault 5):=Lib.hid (by rw [HSX.out];exact xd_dup (.inl ⟨HKD.out,HC.out.rd.hasX⟩))
   obtain ⟨r0,r1,f0,f1⟩:=box_at HC.out.box HM.out.sn
   go_wp2
   exact ret_at (HRET.out 5 E.out) HC.out.box HC.out.b1 HC.out.rd.bel HM.out.sn _ rfl rfl
 | false =>
   have HD0:Hid (¬ dupD h s):=Lib.hid (by
    rintro (⟨h1,h2⟩ | ⟨h1,h2⟩ | ⟨h1,h2⟩)
    ·exact by rw [HC.out.rd.hasX] at h2;cases h2
    ·exact by rw [HKD.out] at h1;exact absurd h1 (by decide)
    ·exact by rw [HKD.out] at h1;exact absurd h1 (by decide))
   go_wp2
   exact HK.out _ _ (mx24 HC.out HM.out HSX.out (.inl HKD.out) HD0.out HRET.out HNX.out)
set_option maxHeartbeats 4000000 in
theorem mx22_76 {wa W1 wr:World} {bs:List UInt8} {a N c b0 o0:Nat} {s:RS} {vo:Value} {xs:List MP} {vg:Value} {q:Option Addr} {qn qd:Nat} {nm lk:ByteArray} {hx hl hk:Bool} {w:World} {g:Nat} {h:HeadV} {u1 u2 u13 u16 u17 u18 u19 u20 u21 u22 u23 u24 u25 u26 u27 u28 u29 u30 u31 u32 u33 u34 u35 u36 u37 u38 u39 u40 u41 u42 u43 u44 u45 u46 u47 u48 u49 u50 u51 u52 u53 u54 u55 u56 u57 u58 u59 u60 u61 u62 u63 u64 u65 u66 u67 u68 u69 u70 u71 u72 u73 u74 u75 u76 u77 u78 u79 u80 u81 u82 u83 u84 u85 u86 u87 u88 u89 u90 u91 u92 u93 u94 u95 u96 u97 u98 u99 u100 u101 u102 u103 u104 u105 u106 u107 u108 u109 u110 u111 u112 u113 u114 u115 u116 u117 u118 u119 u120 u121 u122 u123 u124 u125 u126 u127 u128 u129 u130 u131 u132 u133 u134 u135 u136 u137 u138 u139 u140 u141 u142 u143 u144 u145 u146 u147 u148 u149 u150 u151 u152 u153 u154 u155 u156 u157 u158 u159 u160 u161 u162 u163 u164 u165 u166 u167 u168 u169 u170 u171 u172 u173 u174 u175 u176 u177 u178 u179 u180 u181 u182 u183 u184 u185 u186 u187 u188 u189 u190 u191 u192 u193 u194 u195 u196 u197 u198 u199 u200 u201 u202 u203 u204 u205 u206 u207 u208 u209 u210 u211 u212 u213 u214 u215 u216 u217 u218 u219 u220 u221 u222 u223 u224 u225 u226 u227 u228 u229 u230 u231 u232 u233 u234 u235 u236 u237 u238 u239 u240 u241 u242 u243 u244 u245 u246 u247 u248 u249 u250 u251 u252 u253 u254 u255 u256 u257 u258 u259 u260 u261 u262 u263 u264 u265 u266 u267 u268 u269 u270 u271 u272 u273 u274 u275 u276 u277 u278 u279 u280 u281 u282 u283 u284 u285 u286 u287 u288 u289 u290 u291 u292 u293 u294 u295 u296 u297:Value} {Q:Exit → Act → World → Prop} (C:M0 wa W1 wr bs a N c (some ⟨b0,o0,none⟩) s vo xs vg q qn qd nm.data.toList lk.data.toList hx hl hk) (M:MH wr w a N g h) (hst:stepD (bs.drop a) s=extD (bs.drop a) h s) (hkd:h.kind=76) (hret:RetAll wa a bs s Q) (hnext:NextAll wa W1 bs a N c (some ⟨b0,o0,none⟩) Q (.exit 1)):Code.wp Tryz.prog (tailC 22) Q ⟨#[.slice (some ⟨b0,o0,none⟩) N c,u1,u2,.pointer (some ⟨wa.heap.size,0,none⟩),vo,vg,.slice q qn qd,.string nm,.string lk,.bool hx,.bool hl,.bool hk,.int .i64 (a:Int),u13,.int .i64 ((a:Int)+512),.pointer (some ⟨g,0,none⟩),u16,u17,u18,u19,u20,u21,u22,u23,u24,u25,u26,u27,u28,u29,u30,u31,u32,u33,u34,u35,u36,u37,u38,u39,u40,u41,u42,u43,u44,u45,u46,u47,u48,u49,u50,u51,u52,u53,u54,u55,u56,u57,u58,u59,u60,u61,u62,u63,u64,u65,u66,u67,u68,u69,u70,u71,u72,u73,u74,u75,u76,u77,u78,u79,u80,u81,u82,u83,u84,u85,u86,u87,u88,u89,u90,u91,u92,u93,u94,u95,u96,u97,u98,u99,u100,u101,u102,u103,u104,u105,u106,u107,u108,u109,u110,u111,u112,u113,u114,u115,u116,u117,u118,u119,u120,u121,u122,u123,u124,u125,u126,u127,u128,u129,u130,u131,u132,u133,u134,u135,u136,u137,u138,u139,u140,u141,u142,u143,u144,u145,u146,u147,u148,u149,u150,u151,u152,u153,u154,u155,u156,u157,u158,u159,u160,u161,u162,u163,u164,u165,u166,u167,u168,u169,u170,u171,u172,u173,u174,u175,u176,u177,u178,u179,u180,u181,u182,u183,u184,u185,u186,u187,u188,u189,u190,u191,u192,u193,u194,u195,u196,u197,u198,u199,u200,u201,u202,u203,u204,u205,u206,u207,u208,u209,u210,u211,u212,u213,u214,u215,u216,u217,u218,u219,u220,u221,u222,u223,u224,u225,u226,u227,u228,u229,u230,u231,u232,u233,u234,u235,u236,u237,u238,u239,u240,u241,u242,u243,u244,u245,u246,u247,u248,u249,u250,u251,u252,u253,u254,u255,u256,u257,u258,u259,u260,u261,u262,u263,u264,u265,u266,u267,u268,u269,u270,u271,u272,u273,u274,u275,u276,u277,u278,u279,u280,u281,u282,u283,u284,u285,u286,u287,u288,u289,u290,u291,u292,u293,u294,u295,u296,u297],[]⟩ w:=by
 have HC:=Lib.hid C;have HM:=Lib.hid M;have HRET:=Lib.hid hret;have HNX:=Lib.hid hnext;clear C M hret hnext;have HSX:=Lib.hid hst;have HKD:=Lib.hid hkd;have c2k:w.cell? ⟨g,2,none⟩=some (.int .u8 76):=HM.out.kind hkd;clear hst hkd
 conv => arg 2;whnf
 refine wp_seq_k (fun K hK => ?_)
 have HK:=Lib.hid hK;clear hK
 cases hl with
 | true =>
   have E:Hid (stepD (bs.drop a) s=.fault 5):=Lib.hid (by rw [HSX.out];exact xd_dup (.inr (.inl ⟨HKD.out,by rw [HC.out.rd.name];rfl⟩)))
   obtain ⟨r0,r1,f0,f1⟩:=box_at HC.out.box HM.out.sn
   go_wp2
   exact ret_at (HRET.out 5 E.out) HC.out.box HC.out.b1 HC.out.rd.bel HM.out.sn _ rfl rfl
 | false =>
   have HD0:Hid (¬ dupD h s):=Lib.hid (by
    rintro (⟨h1,h2⟩ | ⟨h1,h2⟩ | ⟨h1,h2⟩)
    ·exact by rw [HKD.out] at h1;exact absurd h1 (by decide)
    ·exact by rw [HC.out.rd.name] at h2;cases h2
    ·exact by rw [HKD.out] at h1;exact absurd h1 (by decide))
   go_wp2
   exact HK.out _ _ (mx24 HC.out HM.out HSX.out (.inr (.inl HKD.out)) HD0.out HRET.out HNX.out)
set_option maxHeartbeats 4000000 in
theorem mx22_75 {wa W1 wr:World} {bs:List UInt8} {a N c b0 o0:Nat} {s:RS} {vo:Value} {xs:List MP} {vg:Value} {q:Option Addr} {qn qd:Nat} {nm lk:ByteArray} {hx hl hk:Bool} {w:World} {g:Nat} {h:HeadV} {u1 u2 u13 u16 u17 u18 u19 u20 u21 u22 u23 u24 u25 u26 u27 u28 u29 u30 u31 u32 u33 u34 u35 u36 u37 u38 u39 u40 u41 u42 u43 u44 u45 u46 u47 u48 u49 u50 u51 u52 u53 u54 u55 u56 u57 u58 u59 u60 u61 u62 u63 u64 u65 u66 u67 u68 u69 u70 u71 u72 u73 u74 u75 u76 u77 u78 u79 u80 u81 u82 u83 u84 u85 u86 u87 u88 u89 u90 u91 u92 u93 u94 u95 u96 u97 u98 u99 u100 u101 u102 u103 u104 u105 u106 u107 u108 u109 u110 u111 u112 u113 u114 u115 u116 u117 u118 u119 u120 u121 u122 u123 u124 u125 u126 u127 u128 u129 u130 u131 u132 u133 u134 u135 u136 u137 u138 u139 u140 u141 u142 u143 u144 u145 u146 u147 u148 u149 u150 u151 u152 u153 u154 u155 u156 u157 u158 u159 u160 u161 u162 u163 u164 u165 u166 u167 u168 u169 u170 u171 u172 u173 u174 u175 u176 u177 u178 u179 u180 u181 u182 u183 u184 u185 u186 u187 u188 u189 u190 u191 u192 u193 u194 u195 u196 u197 u198 u199 u200 u201 u202 u203 u204 u205 u206 u207 u208 u209 u210 u211 u212 u213 u214 u215 u216 u217 u218 u219 u220 u221 u222 u223 u224 u225 u226 u227 u228 u229 u230 u231 u232 u233 u234 u235 u236 u237 u238 u239 u240 u241 u242 u243 u244 u245 u246 u247 u248 u249 u250 u251 u252 u253 u254 u255 u256 u257 u258 u259 u260 u261 u262 u263 u264 u265 u266 u267 u268 u269 u270 u271 u272 u273 u274 u275 u276 u277 u278 u279 u280 u281 u282 u283 u284 u285 u286 u287 u288 u289 u290 u291 u292 u293 u294 u295 u296 u297:Value} {Q:Exit → Act → World → Prop} (C:M0 wa W1 wr bs a N c (some ⟨b0,o0,none⟩) s vo xs vg q qn qd nm.data.toList lk.data.toList hx hl hk) (M:MH wr w a N g h) (hst:stepD (bs.drop a) s=extD (bs.drop a) h s) (hkd:h.kind=75) (hret:RetAll wa a bs s Q) (hnext:NextAll wa W1 bs a N c (some ⟨b0,o0,none⟩) Q (.exit 1)):Code.wp Tryz.prog (tailC 22) Q ⟨#[.slice (some ⟨b0,o0,none⟩) N c,u1,u2,.pointer (some ⟨wa.heap.size,0,none⟩),vo,vg,.slice q qn qd,.string nm,.string lk,.bool hx,.bool hl,.bool hk,.int .i64 (a:Int),u13,.int .i64 ((a:Int)+512),.pointer (some ⟨g,0,none⟩),u16,u17,u18,u19,u20,u21,u22,u23,u24,u25,u26,u27,u28,u29,u30,u31,u32,u33,u34,u35,u36,u37,u38,u39,u40,u41,u42,u43,u44,u45,u46,u47,u48,u49,u50,u51,u52,u53,u54,u55,u56,u57,u58,u59,u60,u61,u62,u63,u64,u65,u66,u67,u68,u69,u70,u71,u72,u73,u74,u75,u76,u77,u78,u79,u80,u81,u82,u83,u84,u85,u86,u87,u88,u89,u90,u91,u92,u93,u94,u95,u96,u97,u98,u99,u100,u101,u102,u103,u104,u105,u106,u107,u108,u109,u110,u111,u112,u113,u114,u115,u116,u117,u118,u119,u120,u121,u122,u123,u124,u125,u126,u127,u128,u129,u130,u131,u132,u133,u134,u135,u136,u137,u138,u139,u140,u141,u142,u143,u144,u145,u146,u147,u148,u149,u150,u151,u152,u153,u154,u155,u156,u157,u158,u159,u160,u161,u162,u163,u164,u165,u166,u167,u168,u169,u170,u171,u172,u173,u174,u175,u176,u177,u178,u179,u180,u181,u182,u183,u184,u185,u186,u187,u188,u189,u190,u191,u192,u193,u194,u195,u196,u197,u198,u199,u200,u201,u202,u203,u204,u205,u206,u207,u208,u209,u210,u211,u212,u213,u214,u215,u216,u217,u218,u219,u220,u221,u222,u223,u224,u225,u226,u227,u228,u229,u230,u231,u232,u233,u234,u235,u236,u237,u238,u239,u240,u241,u242,u243,u244,u245,u246,u247,u248,u249,u250,u251,u252,u253,u254,u255,u256,u257,u258,u259,u260,u261,u262,u263,u264,u265,u266,u267,u268,u269,u270,u271,u272,u273,u274,u275,u276,u277,u278,u279,u280,u281,u282,u283,u284,u285,u286,u287,u288,u289,u290,u291,u292,u293,u294,u295,u296,u297],[]⟩ w:=by
 have HC:=Lib.hid C;have HM:=Lib.hid M;have HRET:=Lib.hid hret;have HNX:=Lib.hid hnext;clear C M hret hnext;have HSX:=Lib.hid hst;have HKD:=Lib.hid hkd;have c2k:w.cell? ⟨g,2,none⟩=some (.int .u8 75):=HM.out.kind hkd;clear hst hkd
 conv => arg 2;whnf
 refine wp_seq_k (fun K hK => ?_)
 have HK:=Lib.hid hK;clear hK
 cases hk with
 | true =>
   have E:Hid (stepD (bs.drop a) s=.fault 5):=Lib.hid (by rw [HSX.out];exact xd_dup (.inr (.inr ⟨HKD.out,by rw [HC.out.rd.link];rfl⟩)))
   obtain ⟨r0,r1,f0,f1⟩:=box_at HC.out.box HM.out.sn
   go_wp2
   exact ret_at (HRET.out 5 E.out) HC.out.box HC.out.b1 HC.out.rd.bel HM.out.sn _ rfl rfl
 | false =>
   have HD0:Hid (¬ dupD h s):=Lib.hid (by
    rintro (⟨h1,h2⟩ | ⟨h1,h2⟩ | ⟨h1,h2⟩)
    ·exact by rw [HKD.out] at h1;exact absurd h1 (by decide)
    ·exact by rw [HKD.out] at h1;exact absurd h1 (by decide)
    ·exact by rw [HC.out.rd.link] at h2;cases h2)
   go_wp2
   exact HK.out _ _ (mx24 HC.out HM.out HSX.out (.inr (.inr (.inl HKD.out))) HD0.out HRET.out HNX.out)
set_option maxHeartbeats 4000000 in
theorem mx22_103 {wa W1 wr:World} {bs:List UInt8} {a N c b0 o0:Nat} {s:RS} {vo:Value} {xs:List MP} {vg:Value} {q:Option Addr} {qn qd:Nat} {nm lk:ByteArray} {hx hl hk:Bool} {w:World} {g:Nat} {h:HeadV} {u1 u2 u13 u16 u17 u18 u19 u20 u21 u22 u23 u24 u25 u26 u27 u28 u29 u30 u31 u32 u33 u34 u35 u36 u37 u38 u39 u40 u41 u42 u43 u44 u45 u46 u47 u48 u49 u50 u51 u52 u53 u54 u55 u56 u57 u58 u59 u60 u61 u62 u63 u64 u65 u66 u67 u68 u69 u70 u71 u72 u73 u74 u75 u76 u77 u78 u79 u80 u81 u82 u83 u84 u85 u86 u87 u88 u89 u90 u91 u92 u93 u94 u95 u96 u97 u98 u99 u100 u101 u102 u103 u104 u105 u106 u107 u108 u109 u110 u111 u112 u113 u114 u115 u116 u117 u118 u119 u120 u121 u122 u123 u124 u125 u126 u127 u128 u129 u130 u131 u132 u133 u134 u135 u136 u137 u138 u139 u140 u141 u142 u143 u144 u145 u146 u147 u148 u149 u150 u151 u152 u153 u154 u155 u156 u157 u158 u159 u160 u161 u162 u163 u164 u165 u166 u167 u168 u169 u170 u171 u172 u173 u174 u175 u176 u177 u178 u179 u180 u181 u182 u183 u184 u185 u186 u187 u188 u189 u190 u191 u192 u193 u194 u195 u196 u197 u198 u199 u200 u201 u202 u203 u204 u205 u206 u207 u208 u209 u210 u211 u212 u213 u214 u215 u216 u217 u218 u219 u220 u221 u222 u223 u224 u225 u226 u227 u228 u229 u230 u231 u232 u233 u234 u235 u236 u237 u238 u239 u240 u241 u242 u243 u244 u245 u246 u247 u248 u249 u250 u251 u252 u253 u254 u255 u256 u257 u258 u259 u260 u261 u262 u263 u264 u265 u266 u267 u268 u269 u270 u271 u272 u273 u274 u275 u276 u277 u278 u279 u280 u281 u282 u283 u284 u285 u286 u287 u288 u289 u290 u291 u292 u293 u294 u295 u296 u297:Value} {Q:Exit → Act → World → Prop} (C:M0 wa W1 wr bs a N c (some ⟨b0,o0,none⟩) s vo xs vg q qn qd nm.data.toList lk.data.toList hx hl hk) (M:MH wr w a N g h) (hst:stepD (bs.drop a) s=extD (bs.drop a) h s) (hkd:h.kind=103) (hret:RetAll wa a bs s Q) (hnext:NextAll wa W1 bs a N c (some ⟨b0,o0,none⟩) Q (.exit 1)):Code.wp Tryz.prog (tailC 22) Q ⟨#[.slice (some ⟨b0,o0,none⟩) N c,u1,u2,.pointer (some ⟨wa.heap.size,0,none⟩),vo,vg,.slice q qn qd,.string nm,.string lk,.bool hx,.bool hl,.bool hk,.int .i64 (a:Int),u13,.int .i64 ((a:Int)+512),.pointer (some ⟨g,0,none⟩),u16,u17,u18,u19,u20,u21,u22,u23,u24,u25,u26,u27,u28,u29,u30,u31,u32,u33,u34,u35,u36,u37,u38,u39,u40,u41,u42,u43,u44,u45,u46,u47,u48,u49,u50,u51,u52,u53,u54,u55,u56,u57,u58,u59,u60,u61,u62,u63,u64,u65,u66,u67,u68,u69,u70,u71,u72,u73,u74,u75,u76,u77,u78,u79,u80,u81,u82,u83,u84,u85,u86,u87,u88,u89,u90,u91,u92,u93,u94,u95,u96,u97,u98,u99,u100,u101,u102,u103,u104,u105,u106,u107,u108,u109,u110,u111,u112,u113,u114,u115,u116,u117,u118,u119,u120,u121,u122,u123,u124,u125,u126,u127,u128,u129,u130,u131,u132,u133,u134,u135,u136,u137,u138,u139,u140,u141,u142,u143,u144,u145,u146,u147,u148,u149,u150,u151,u152,u153,u154,u155,u156,u157,u158,u159,u160,u161,u162,u163,u164,u165,u166,u167,u168,u169,u170,u171,u172,u173,u174,u175,u176,u177,u178,u179,u180,u181,u182,u183,u184,u185,u186,u187,u188,u189,u190,u191,u192,u193,u194,u195,u196,u197,u198,u199,u200,u201,u202,u203,u204,u205,u206,u207,u208,u209,u210,u211,u212,u213,u214,u215,u216,u217,u218,u219,u220,u221,u222,u223,u224,u225,u226,u227,u228,u229,u230,u231,u232,u233,u234,u235,u236,u237,u238,u239,u240,u241,u242,u243,u244,u245,u246,u247,u248,u249,u250,u251,u252,u253,u254,u255,u256,u257,u258,u259,u260,u261,u262,u263,u264,u265,u266,u267,u268,u269,u270,u271,u272,u273,u274,u275,u276,u277,u278,u279,u280,u281,u282,u283,u284,u285,u286,u287,u288,u289,u290,u291,u292,u293,u294,u295,u296,u297],[]⟩ w:=by
 have HC:=Lib.hid C;have HM:=Lib.hid M;have HRET:=Lib.hid hret;have HNX:=Lib.hid hnext;clear C M hret hnext;have HSX:=Lib.hid hst;have HKD:=Lib.hid hkd;have c2k:w.cell? ⟨g,2,none⟩=some (.int .u8 103):=HM.out.kind hkd;clear hst hkd
 conv => arg 2;whnf
 refine wp_seq_k (fun K hK => ?_)
 have HK:=Lib.hid hK;clear hK
 have HD0:Hid (¬ dupD h s):=Lib.hid (by
  rintro (⟨h1,h2⟩ | ⟨h1,h2⟩ | ⟨h1,h2⟩)
  ·exact by rw [HKD.out] at h1;exact absurd h1 (by decide)
  ·exact by rw [HKD.out] at h1;exact absurd h1 (by decide)
  ·exact by rw [HKD.out] at h1;exact absurd h1 (by decide))
 go_wp2
 exact HK.out _ _ (mx24 HC.out HM.out HSX.out (.inr (.inr (.inr HKD.out))) HD0.out HRET.out HNX.out)
end Go.Proofs.YtdjedimjhogdoaaGreatDoor.Mem
end
