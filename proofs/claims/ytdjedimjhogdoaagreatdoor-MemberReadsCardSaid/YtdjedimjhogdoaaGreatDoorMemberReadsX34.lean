/- Texts of this seat, merged: what the proof reaches. -/
import Derived.Test.YtdjedimjhogdoaaGreatDoorMemberReadsX33
import Derived.Test.YtdjedimjhogdoaaGreatDoorMemberReadsX24
import Derived.Test.YtdjedimjhogdoaaGreatDoorMemberReadsX32
import Derived.Test.YtdjedimjhogdoaaGreatDoorMemberReadsX13
import Derived.Test.YtdjedimjhogdoaaGreatDoorMemberReadsX14
import Derived.Test.YtdjedimjhogdoaaGreatDoorMemberReadsX25
import Derived.Test.YtdjedimjhogdoaaGreatDoorMemberReadsX27
import Derived.Test.YtdjedimjhogdoaaGreatDoorMemberReadsX11
import Derived.Test.YtdjedimjhogdoaaGreatDoorMemberReadsX26
import Derived.Deep.DeepCutAuto
section
namespace Go.Proofs.YtdjedimjhogdoaaGreatDoor.Mem
open Go.ChangeShapes Go.WideShapes Go.ChangeAt Go.RowKit Base Byt Txt Bk Hp Head Num Path Block Attr Rec Go.Lib
set_option linter.unusedVariables false
set_option linter.unusedSectionVars false
set_option maxRecDepth 1000000
set_option maxHeartbeats 8000000 in
theorem mx45 {wa W1 wr:World} {bs:List UInt8} {a N c b0 o0:Nat} {s:RS} {vo:Value} {xs:List MP} {vg:Value} {q:Option Addr} {qn qd:Nat} {nm lk:ByteArray} {hx hl hk:Bool} {w:World} {g:Nat} {h:HeadV} {u1 u2 u13 u16 u17 u18 u19 u20 u21 u22 u23 u24 u25 u26 u27 u28 u29 u30 u31 u32 u33 u34 u35 u36 u37 u38 u39 u40 u41 u42 u43 u44 u45 u46 u47 u48 u49 u50 u51 u52 u53 u54 u55 u56 u57 u58 u59 u60 u61 u62 u63 u64 u65 u66 u67 u68 u69 u70 u71 u72 u73 u74 u75 u76 u77 u78 u79 u80 u81 u82 u83 u84 u85 u86 u87 u88 u89 u90 u91 u92 u93 u94 u95 u96 u97 u98 u99 u100 u101 u102 u103 u104 u105 u106 u107 u108 u109 u110 u111 u112 u113 u114 u115 u116 u117 u118 u119 u120 u121 u122 u123 u124 u125 u126 u127 u128 u129 u130 u131 u132 u133 u134 u135 u136 u137 u138 u139 u140 u141 u142 u143 u144 u145 u146 u147 u148 u149 u150 u151 u152 u153 u154 u155 u156 u157 u158 u159 u160 u161 u162 u163 u164 u165 u166 u167 u168 u169 u170 u171 u172 u173 u174 u175 u176 u177 u178 u179 u180 u181 u182 u183 u184 u185 u186 u187 u188 u189 u190 u191 u192 u193 u194 u195 u196 u197 u198 u199 u200 u201 u202 u203 u204 u205 u206 u207 u208 u209 u210 u211 u212 u213 u214 u215 u216 u217 u218 u219 u220 u221 u222 u223 u224 u225 u226 u227 u228 u229 u230 u231 u232 u233 u234 u235 u236 u237 u238 u239 u240 u241 u242 u243 u244 u245 u246 u247 u248 u249 u250 u251 u252 u253 u254 u255 u256 u257 u258 u259 u260 u261 u262 u263 u264 u265 u266 u267 u268 u269 u270 u271 u272 u273 u274 u275 u276 u277 u278 u279 u280 u281 u282 u283 u284 u285 u286 u287 u288 u289 u290 u291 u292 u293 u294 u295 u296 u297:Value} {Q:Exit → Act → World → Prop} (C:M0 wa W1 wr bs a N c (some ⟨b0,o0,none⟩) s vo xs vg q qn qd nm.data.toList lk.data.toList hx hl hk) (M:MH wr w a N g h) (hst:stepD (bs.drop a) s=memD (bs.drop a) h s) (hfl:¬ 4096≤s.out.length) (hkd:¬ (h.kind≠48∧h.kind≠49∧h.kind≠50∧h.kind≠53)) (hret:RetAll wa a bs s Q) (hnext:NextAll wa W1 bs a N c (some ⟨b0,o0,none⟩) Q .normal):Code.wp Tryz.prog (tailC 45) Q ⟨#[.slice (some ⟨b0,o0,none⟩) N c,u1,u2,.pointer (some ⟨wa.heap.size,0,none⟩),vo,vg,.slice q qn qd,.string nm,.string lk,.bool hx,.bool hl,.bool hk,.int .i64 (a:Int),u13,.int .i64 ((a:Int)+512),.pointer (some ⟨g,0,none⟩),u16,u17,u18,u19,u20,u21,u22,u23,u24,u25,u26,u27,u28,u29,u30,u31,u32,u33,u34,u35,u36,u37,u38,u39,u40,u41,u42,u43,u44,u45,u46,u47,u48,u49,u50,u51,u52,u53,u54,u55,u56,u57,u58,u59,u60,u61,u62,u63,u64,u65,u66,u67,u68,u69,u70,u71,u72,u73,u74,u75,u76,u77,u78,u79,u80,u81,u82,u83,u84,u85,u86,u87,u88,u89,u90,u91,u92,u93,u94,u95,u96,u97,u98,u99,u100,u101,u102,u103,u104,u105,u106,u107,u108,u109,u110,u111,u112,u113,u114,u115,u116,u117,u118,u119,u120,u121,u122,u123,u124,u125,u126,u127,u128,u129,u130,u131,u132,u133,u134,u135,u136,u137,u138,u139,u140,u141,u142,u143,u144,u145,u146,u147,u148,u149,u150,u151,u152,u153,u154,u155,u156,u157,u158,u159,u160,u161,u162,u163,u164,u165,u166,u167,u168,u169,u170,u171,u172,u173,u174,u175,u176,u177,u178,u179,u180,u181,u182,u183,u184,u185,u186,u187,u188,u189,u190,u191,u192,u193,u194,u195,u196,u197,u198,u199,u200,u201,u202,u203,u204,u205,u206,u207,u208,u209,u210,u211,u212,u213,u214,u215,u216,u217,u218,u219,u220,u221,u222,u223,u224,u225,u226,u227,u228,u229,u230,u231,u232,u233,u234,u235,u236,u237,u238,u239,u240,u241,u242,u243,u244,u245,u246,u247,u248,u249,u250,u251,u252,u253,u254,u255,u256,u257,u258,u259,u260,u261,u262,u263,u264,u265,u266,u267,u268,u269,u270,u271,u272,u273,u274,u275,u276,u277,u278,u279,u280,u281,u282,u283,u284,u285,u286,u287,u288,u289,u290,u291,u292,u293,u294,u295,u296,u297],[]⟩ w:=by
 have HMC:Hid (MC wa W1 wr bs a N c b0 o0 s vo xs vg q qn qd nm.data.toList lk.data.toList hx hl hk h):=Lib.hid ⟨C.b1,C.rd,C.box,C.bat,C.need,C.len,C.hN,C.hc,C.hcm,M.ha,hst,hfl,hkd⟩;have HN:=Lib.hid C.rd.name;have HL:=Lib.hid C.rd.link;have HM:=Lib.hid M;have HRET:=Lib.hid hret;have HNX:=Lib.hid hnext;have x0:=M.head.cell 0;have f0:=M.head.frozen 0;have x1:=M.head.cell 1;have f1:=M.head.frozen 1;unfold headC at x0 x1;simp only [List.getElem?_toArray,List.getElem?_cons_zero,List.getElem?_cons_succ] at x0 x1;clear C M hst hfl hkd hret hnext
 conv => arg 2;whnf
 refine wp_seq_k (fun K hK => ?_)
 have HK:=Lib.hid hK;clear hK
 cases hl with
 | false =>
   cases hk with
   | false =>
     go_wp2
     refine HK.out _ _ ?_
     clear HK;refine wp_seq_k (fun K hK => ?_)
     have HK:=Lib.hid hK;clear hK
     go_wp2
     refine HK.out _ _ (mt49 HMC.out HM.out.sn HM.out.gge ?_ HM.out.bd HRET.out HNX.out);unfold longV;rw [HN.out,HL.out];exact HM.out.head
   | true =>
     go_wp2
     refine HK.out _ _ ?_
     clear HK;refine wp_seq_k (fun K hK => ?_)
     have HK:=Lib.hid hK;clear hK
     go_wp2
     refine HK.out _ _ (mt49 HMC.out (HM.out.sn.setCell (p:=⟨g,1,none⟩) HM.out.gge _) HM.out.gge ?_ HM.out.bd HRET.out HNX.out);unfold longV;rw [HN.out,HL.out];have:=HM.out.head.set 1 (.string lk) (by decide:1 < 9)
     unfold headC at this ⊢;simp only [Bool.false_eq_true,if_false,if_true,Option.getD_none,Option.getD_some,str_of];exact this
 | true =>
   have HH0:=Lib.hid (HM.out.head.set 0 (.string nm) (by decide:0 < 9))
   have y1:=HH0.out.cell 1;have g1:=HH0.out.frozen 1;unfold headC at y1;simp only [List.set_toArray,List.set_cons_zero,List.getElem?_toArray,List.getElem?_cons_zero,List.getElem?_cons_succ] at y1
   cases hk with
   | false =>
     go_wp2
     refine HK.out _ _ ?_
     clear HK;refine wp_seq_k (fun K hK => ?_)
     have HK:=Lib.hid hK;clear hK
     go_wp2
     refine HK.out _ _ (mt49 HMC.out (HM.out.sn.setCell (p:=⟨g,0,none⟩) HM.out.gge _) HM.out.gge ?_ HM.out.bd HRET.out HNX.out);unfold longV;rw [HN.out,HL.out];have:=HH0.out;unfold headC at this ⊢;simp only [Bool.false_eq_true,if_false,if_true,Option.getD_none,Option.getD_some,str_of];exact this
   | true =>
     go_wp2
     refine HK.out _ _ ?_
     clear HK;refine wp_seq_k (fun K hK => ?_)
     have HK:=Lib.hid hK;clear hK
     go_wp2
     refine HK.out _ _ (mt49 HMC.out ((HM.out.sn.setCell (p:=⟨g,0,none⟩) HM.out.gge _).setCell (p:=⟨g,1,none⟩) HM.out.gge _) HM.out.gge ?_ HM.out.bd HRET.out HNX.out);unfold longV;rw [HN.out,HL.out];have:=HH0.out.set 1 (.string lk) (by decide:1 < 9)
     unfold headC at this ⊢;simp only [if_true,Option.getD_some,str_of];exact this
set_option maxHeartbeats 8000000 in
theorem mx43 {wa W1 wr:World} {bs:List UInt8} {a N c b0 o0:Nat} {s:RS} {vo:Value} {xs:List MP} {vg:Value} {q:Option Addr} {qn qd:Nat} {nm lk:ByteArray} {hx hl hk:Bool} {w:World} {g:Nat} {h:HeadV} {u1 u2 u13 u16 u17 u18 u19 u20 u21 u22 u23 u24 u25 u26 u27 u28 u29 u30 u31 u32 u33 u34 u35 u36 u37 u38 u39 u40 u41 u42 u43 u44 u45 u46 u47 u48 u49 u50 u51 u52 u53 u54 u55 u56 u57 u58 u59 u60 u61 u62 u63 u64 u65 u66 u67 u68 u69 u70 u71 u72 u73 u74 u75 u76 u77 u78 u79 u80 u81 u82 u83 u84 u85 u86 u87 u88 u89 u90 u91 u92 u93 u94 u95 u96 u97 u98 u99 u100 u101 u102 u103 u104 u105 u106 u107 u108 u109 u110 u111 u112 u113 u114 u115 u116 u117 u118 u119 u120 u121 u122 u123 u124 u125 u126 u127 u128 u129 u130 u131 u132 u133 u134 u135 u136 u137 u138 u139 u140 u141 u142 u143 u144 u145 u146 u147 u148 u149 u150 u151 u152 u153 u154 u155 u156 u157 u158 u159 u160 u161 u162 u163 u164 u165 u166 u167 u168 u169 u170 u171 u172 u173 u174 u175 u176 u177 u178 u179 u180 u181 u182 u183 u184 u185 u186 u187 u188 u189 u190 u191 u192 u193 u194 u195 u196 u197 u198 u199 u200 u201 u202 u203 u204 u205 u206 u207 u208 u209 u210 u211 u212 u213 u214 u215 u216 u217 u218 u219 u220 u221 u222 u223 u224 u225 u226 u227 u228 u229 u230 u231 u232 u233 u234 u235 u236 u237 u238 u239 u240 u241 u242 u243 u244 u245 u246 u247 u248 u249 u250 u251 u252 u253 u254 u255 u256 u257 u258 u259 u260 u261 u262 u263 u264 u265 u266 u267 u268 u269 u270 u271 u272 u273 u274 u275 u276 u277 u278 u279 u280 u281 u282 u283 u284 u285 u286 u287 u288 u289 u290 u291 u292 u293 u294 u295 u296 u297:Value} {Q:Exit → Act → World → Prop} (C:M0 wa W1 wr bs a N c (some ⟨b0,o0,none⟩) s vo xs vg q qn qd nm.data.toList lk.data.toList hx hl hk) (M:MH wr w a N g h) (hst:stepD (bs.drop a) s=memD (bs.drop a) h s) (hfl:¬ 4096≤s.out.length) (hret:RetAll wa a bs s Q) (hnext:NextAll wa W1 bs a N c (some ⟨b0,o0,none⟩) Q .normal):Code.wp Tryz.prog (tailC 43) Q ⟨#[.slice (some ⟨b0,o0,none⟩) N c,u1,u2,.pointer (some ⟨wa.heap.size,0,none⟩),vo,vg,.slice q qn qd,.string nm,.string lk,.bool hx,.bool hl,.bool hk,.int .i64 (a:Int),u13,.int .i64 ((a:Int)+512),.pointer (some ⟨g,0,none⟩),u16,u17,u18,u19,u20,u21,u22,u23,u24,u25,u26,u27,u28,u29,u30,u31,u32,u33,u34,u35,u36,u37,u38,u39,u40,u41,u42,u43,u44,u45,u46,u47,u48,u49,u50,u51,u52,u53,u54,u55,u56,u57,u58,u59,u60,u61,u62,u63,u64,u65,u66,u67,u68,u69,u70,u71,u72,u73,u74,u75,u76,u77,u78,u79,u80,u81,u82,u83,u84,u85,u86,u87,u88,u89,u90,u91,u92,u93,u94,u95,u96,u97,u98,u99,u100,u101,u102,u103,u104,u105,u106,u107,u108,u109,u110,u111,u112,u113,u114,u115,u116,u117,u118,u119,u120,u121,u122,u123,u124,u125,u126,u127,u128,u129,u130,u131,u132,u133,u134,u135,u136,u137,u138,u139,u140,u141,u142,u143,u144,u145,u146,u147,u148,u149,u150,u151,u152,u153,u154,u155,u156,u157,u158,u159,u160,u161,u162,u163,u164,u165,u166,u167,u168,u169,u170,u171,u172,u173,u174,u175,u176,u177,u178,u179,u180,u181,u182,u183,u184,u185,u186,u187,u188,u189,u190,u191,u192,u193,u194,u195,u196,u197,u198,u199,u200,u201,u202,u203,u204,u205,u206,u207,u208,u209,u210,u211,u212,u213,u214,u215,u216,u217,u218,u219,u220,u221,u222,u223,u224,u225,u226,u227,u228,u229,u230,u231,u232,u233,u234,u235,u236,u237,u238,u239,u240,u241,u242,u243,u244,u245,u246,u247,u248,u249,u250,u251,u252,u253,u254,u255,u256,u257,u258,u259,u260,u261,u262,u263,u264,u265,u266,u267,u268,u269,u270,u271,u272,u273,u274,u275,u276,u277,u278,u279,u280,u281,u282,u283,u284,u285,u286,u287,u288,u289,u290,u291,u292,u293,u294,u295,u296,u297],[]⟩ w:=by
 have HC:=Lib.hid C;have HM:=Lib.hid M;have HRET:=Lib.hid hret;have HNX:=Lib.hid hnext;clear C M hret hnext;have HSX:=Lib.hid hst;have HFL:=Lib.hid hfl;have c2:w.cell? ⟨g,2,none⟩=some (.int .u8 (h.kind.toNat:Int)):=HM.out.kind rfl;clear hst hfl
 conv => arg 2;whnf
 refine wp_seq_k (fun K hK => ?_)
 have HK:=Lib.hid hK;clear hK
 by_cases hkn:h.kind=48 ∨ h.kind=49 ∨ h.kind=50 ∨ h.kind=53
 case neg =>
  simp only [not_or] at hkn
  have nb:∀ j:UInt8,h.kind≠j → ((h.kind.toNat:Int) == (j.toNat:Int))=false:=fun j hj => by
   rw [beq_eq_false_iff_ne];intro h';exact hj (UInt8.toNat.inj (by omega))
  have m1:((h.kind.toNat:Int) != 48)=true:=by rw [bne,show ((h.kind.toNat:Int) == 48)=false from nb 48 hkn.1];rfl
  have m2:((h.kind.toNat:Int) != 49)=true:=by rw [bne,show ((h.kind.toNat:Int) == 49)=false from nb 49 hkn.2.1];rfl
  have m3:((h.kind.toNat:Int) != 50)=true:=by rw [bne,show ((h.kind.toNat:Int) == 50)=false from nb 50 hkn.2.2.1];rfl
  have m4:((h.kind.toNat:Int) != 53)=true:=by rw [bne,show ((h.kind.toNat:Int) == 53)=false from nb 53 hkn.2.2.2];rfl
  have E:Hid (stepD (bs.drop a) s=.fault 8):=Lib.hid (by rw [HSX.out];exact md_type HFL.out hkn)
  clear nb hkn;obtain ⟨r0,r1,f0,f1⟩:=box_at HC.out.box HM.out.sn
  go_wp2
  exact ret_at (HRET.out 8 E.out) HC.out.box HC.out.b1 HC.out.rd.bel HM.out.sn _ rfl rfl
 case pos =>
  have HKN:Hid (¬ (h.kind≠48∧h.kind≠49∧h.kind≠50∧h.kind≠53)):=Lib.hid (by rintro ⟨h1,h2,h3,h4⟩;exact hkn.elim h1 (fun h => h.elim h2 (fun h => h.elim h3 h4)))
  rcases hkn with hkk | hkk | hkk | hkk
  ·have c2k:w.cell? ⟨g,2,none⟩=some (.int .u8 48):=HM.out.kind hkk
   clear c2 hkk
   go_wp2
   exact HK.out _ _ (mx45 HC.out HM.out HSX.out HFL.out HKN.out HRET.out HNX.out)
  ·have c2k:w.cell? ⟨g,2,none⟩=some (.int .u8 49):=HM.out.kind hkk
   clear c2 hkk
   go_wp2
   exact HK.out _ _ (mx45 HC.out HM.out HSX.out HFL.out HKN.out HRET.out HNX.out)
  ·have c2k:w.cell? ⟨g,2,none⟩=some (.int .u8 50):=HM.out.kind hkk
   clear c2 hkk
   go_wp2
   exact HK.out _ _ (mx45 HC.out HM.out HSX.out HFL.out HKN.out HRET.out HNX.out)
  ·have c2k:w.cell? ⟨g,2,none⟩=some (.int .u8 53):=HM.out.kind hkk
   clear c2 hkk
   go_wp2
   exact HK.out _ _ (mx45 HC.out HM.out HSX.out HFL.out HKN.out HRET.out HNX.out)
set_option maxHeartbeats 4000000 in
theorem mx41 {wa W1 wr:World} {bs:List UInt8} {a N c b0 o0:Nat} {s:RS} {vo:Value} {xs:List MP} {vg:Value} {q:Option Addr} {qn qd:Nat} {nm lk:ByteArray} {hx hl hk:Bool} {w:World} {g:Nat} {h:HeadV} {u1 u2 u13 u16 u17 u18 u19 u20 u21 u22 u23 u24 u25 u26 u27 u28 u29 u30 u31 u32 u33 u34 u35 u36 u37 u38 u39 u40 u41 u42 u43 u44 u45 u46 u47 u48 u49 u50 u51 u52 u53 u54 u55 u56 u57 u58 u59 u60 u61 u62 u63 u64 u65 u66 u67 u68 u69 u70 u71 u72 u73 u74 u75 u76 u77 u78 u79 u80 u81 u82 u83 u84 u85 u86 u87 u88 u89 u90 u91 u92 u93 u94 u95 u96 u97 u98 u99 u100 u101 u102 u103 u104 u105 u106 u107 u108 u109 u110 u111 u112 u113 u114 u115 u116 u117 u118 u119 u120 u121 u122 u123 u124 u125 u126 u127 u128 u129 u130 u131 u132 u133 u134 u135 u136 u137 u138 u139 u140 u141 u142 u143 u144 u145 u146 u147 u148 u149 u150 u151 u152 u153 u154 u155 u156 u157 u158 u159 u160 u161 u162 u163 u164 u165 u166 u167 u168 u169 u170 u171 u172 u173 u174 u175 u176 u177 u178 u179 u180 u181 u182 u183 u184 u185 u186 u187 u188 u189 u190 u191 u192 u193 u194 u195 u196 u197 u198 u199 u200 u201 u202 u203 u204 u205 u206 u207 u208 u209 u210 u211 u212 u213 u214 u215 u216 u217 u218 u219 u220 u221 u222 u223 u224 u225 u226 u227 u228 u229 u230 u231 u232 u233 u234 u235 u236 u237 u238 u239 u240 u241 u242 u243 u244 u245 u246 u247 u248 u249 u250 u251 u252 u253 u254 u255 u256 u257 u258 u259 u260 u261 u262 u263 u264 u265 u266 u267 u268 u269 u270 u271 u272 u273 u274 u275 u276 u277 u278 u279 u280 u281 u282 u283 u284 u285 u286 u287 u288 u289 u290 u291 u292 u293 u294 u295 u296 u297:Value} {Q:Exit → Act → World → Prop} (C:M0 wa W1 wr bs a N c (some ⟨b0,o0,none⟩) s vo xs vg q qn qd nm.data.toList lk.data.toList hx hl hk) (M:MH wr w a N g h) (hst:stepD (bs.drop a) s=memD (bs.drop a) h s) (hret:RetAll wa a bs s Q) (hnext:NextAll wa W1 bs a N c (some ⟨b0,o0,none⟩) Q .normal):Code.wp Tryz.prog (tailC 41) Q ⟨#[.slice (some ⟨b0,o0,none⟩) N c,u1,u2,.pointer (some ⟨wa.heap.size,0,none⟩),vo,vg,.slice q qn qd,.string nm,.string lk,.bool hx,.bool hl,.bool hk,.int .i64 (a:Int),u13,.int .i64 ((a:Int)+512),.pointer (some ⟨g,0,none⟩),u16,u17,u18,u19,u20,u21,u22,u23,u24,u25,u26,u27,u28,u29,u30,u31,u32,u33,u34,u35,u36,u37,u38,u39,u40,u41,u42,u43,u44,u45,u46,u47,u48,u49,u50,u51,u52,u53,u54,u55,u56,u57,u58,u59,u60,u61,u62,u63,u64,u65,u66,u67,u68,u69,u70,u71,u72,u73,u74,u75,u76,u77,u78,u79,u80,u81,u82,u83,u84,u85,u86,u87,u88,u89,u90,u91,u92,u93,u94,u95,u96,u97,u98,u99,u100,u101,u102,u103,u104,u105,u106,u107,u108,u109,u110,u111,u112,u113,u114,u115,u116,u117,u118,u119,u120,u121,u122,u123,u124,u125,u126,u127,u128,u129,u130,u131,u132,u133,u134,u135,u136,u137,u138,u139,u140,u141,u142,u143,u144,u145,u146,u147,u148,u149,u150,u151,u152,u153,u154,u155,u156,u157,u158,u159,u160,u161,u162,u163,u164,u165,u166,u167,u168,u169,u170,u171,u172,u173,u174,u175,u176,u177,u178,u179,u180,u181,u182,u183,u184,u185,u186,u187,u188,u189,u190,u191,u192,u193,u194,u195,u196,u197,u198,u199,u200,u201,u202,u203,u204,u205,u206,u207,u208,u209,u210,u211,u212,u213,u214,u215,u216,u217,u218,u219,u220,u221,u222,u223,u224,u225,u226,u227,u228,u229,u230,u231,u232,u233,u234,u235,u236,u237,u238,u239,u240,u241,u242,u243,u244,u245,u246,u247,u248,u249,u250,u251,u252,u253,u254,u255,u256,u257,u258,u259,u260,u261,u262,u263,u264,u265,u266,u267,u268,u269,u270,u271,u272,u273,u274,u275,u276,u277,u278,u279,u280,u281,u282,u283,u284,u285,u286,u287,u288,u289,u290,u291,u292,u293,u294,u295,u296,u297],[]⟩ w:=by
 have HC:=Lib.hid C;have HM:=Lib.hid M;have HRET:=Lib.hid hret;have HNX:=Lib.hid hnext;obtain ⟨vp,vc,rfl,_,_,_⟩:=mems_own C.rd.row C.rd.bodies;have HXO:=Lib.hid C.rd.len;clear C M hret hnext;have HSX:=Lib.hid hst;clear hst
 conv => arg 2;whnf
 refine wp_seq_k (fun K hK => ?_)
 have HK:=Lib.hid hK;clear hK
 by_cases hfull:4096≤xs.length
 ·have hfz:(4096:Int)≤(xs.length:Int):=by omega
  have E:Hid (stepD (bs.drop a) s=.fault 10):=Lib.hid (by rw [HSX.out];exact md_full (by rw [← HXO.out];exact hfull))
  obtain ⟨r0,r1,f0,f1⟩:=box_at HC.out.box HM.out.sn
  go_wp2
  exact ret_at (HRET.out 10 E.out) HC.out.box HC.out.b1 HC.out.rd.bel HM.out.sn _ rfl rfl
 ·have hfz:¬ (4096:Int)≤(xs.length:Int):=by omega
  have HF:Hid (¬ 4096≤s.out.length):=Lib.hid (by rw [← HXO.out];exact hfull)
  clear hfull
  go_wp2
  exact HK.out _ _ (mx43 HC.out HM.out HSX.out HF.out HRET.out HNX.out)
set_option maxHeartbeats 8000000 in
theorem mx21 {wa W1 wr:World} {bs:List UInt8} {a N c b0 o0:Nat} {s:RS} {vo:Value} {xs:List MP} {vg:Value} {q:Option Addr} {qn qd:Nat} {nm lk:ByteArray} {hx hl hk:Bool} {w:World} {g:Nat} {h:HeadV} {u1 u2 u13 u16 u17 u18 u19 u20 u21 u22 u23 u24 u25 u26 u27 u28 u29 u30 u31 u32 u33 u34 u35 u36 u37 u38 u39 u40 u41 u42 u43 u44 u45 u46 u47 u48 u49 u50 u51 u52 u53 u54 u55 u56 u57 u58 u59 u60 u61 u62 u63 u64 u65 u66 u67 u68 u69 u70 u71 u72 u73 u74 u75 u76 u77 u78 u79 u80 u81 u82 u83 u84 u85 u86 u87 u88 u89 u90 u91 u92 u93 u94 u95 u96 u97 u98 u99 u100 u101 u102 u103 u104 u105 u106 u107 u108 u109 u110 u111 u112 u113 u114 u115 u116 u117 u118 u119 u120 u121 u122 u123 u124 u125 u126 u127 u128 u129 u130 u131 u132 u133 u134 u135 u136 u137 u138 u139 u140 u141 u142 u143 u144 u145 u146 u147 u148 u149 u150 u151 u152 u153 u154 u155 u156 u157 u158 u159 u160 u161 u162 u163 u164 u165 u166 u167 u168 u169 u170 u171 u172 u173 u174 u175 u176 u177 u178 u179 u180 u181 u182 u183 u184 u185 u186 u187 u188 u189 u190 u191 u192 u193 u194 u195 u196 u197 u198 u199 u200 u201 u202 u203 u204 u205 u206 u207 u208 u209 u210 u211 u212 u213 u214 u215 u216 u217 u218 u219 u220 u221 u222 u223 u224 u225 u226 u227 u228 u229 u230 u231 u232 u233 u234 u235 u236 u237 u238 u239 u240 u241 u242 u243 u244 u245 u246 u247 u248 u249 u250 u251 u252 u253 u254 u255 u256 u257 u258 u259 u260 u261 u262 u263 u264 u265 u266 u267 u268 u269 u270 u271 u272 u273 u274 u275 u276 u277 u278 u279 u280 u281 u282 u283 u284 u285 u286 u287 u288 u289 u290 u291 u292 u293 u294 u295 u296 u297:Value} {Q:Exit → Act → World → Prop} (C:M0 wa W1 wr bs a N c (some ⟨b0,o0,none⟩) s vo xs vg q qn qd nm.data.toList lk.data.toList hx hl hk) (M:MH wr w a N g h) (hlen:¬ (bs.drop a).length < 512) (Xb:List UInt8) (hX:(bs.drop a).take 512=Xb) (hz:zeroB Xb=false) (hH:headR Xb=(h,0)) (hret:RetAll wa a bs s Q) (hnext:NextAll wa W1 bs a N c (some ⟨b0,o0,none⟩) Q .normal) (hcont:NextAll wa W1 bs a N c (some ⟨b0,o0,none⟩) Q (.exit 1)):Code.wp Tryz.prog (tailC 21) Q ⟨#[.slice (some ⟨b0,o0,none⟩) N c,u1,u2,.pointer (some ⟨wa.heap.size,0,none⟩),vo,vg,.slice q qn qd,.string nm,.string lk,.bool hx,.bool hl,.bool hk,.int .i64 (a:Int),u13,.int .i64 ((a:Int)+512),.pointer (some ⟨g,0,none⟩),u16,u17,u18,u19,u20,u21,u22,u23,u24,u25,u26,u27,u28,u29,u30,u31,u32,u33,u34,u35,u36,u37,u38,u39,u40,u41,u42,u43,u44,u45,u46,u47,u48,u49,u50,u51,u52,u53,u54,u55,u56,u57,u58,u59,u60,u61,u62,u63,u64,u65,u66,u67,u68,u69,u70,u71,u72,u73,u74,u75,u76,u77,u78,u79,u80,u81,u82,u83,u84,u85,u86,u87,u88,u89,u90,u91,u92,u93,u94,u95,u96,u97,u98,u99,u100,u101,u102,u103,u104,u105,u106,u107,u108,u109,u110,u111,u112,u113,u114,u115,u116,u117,u118,u119,u120,u121,u122,u123,u124,u125,u126,u127,u128,u129,u130,u131,u132,u133,u134,u135,u136,u137,u138,u139,u140,u141,u142,u143,u144,u145,u146,u147,u148,u149,u150,u151,u152,u153,u154,u155,u156,u157,u158,u159,u160,u161,u162,u163,u164,u165,u166,u167,u168,u169,u170,u171,u172,u173,u174,u175,u176,u177,u178,u179,u180,u181,u182,u183,u184,u185,u186,u187,u188,u189,u190,u191,u192,u193,u194,u195,u196,u197,u198,u199,u200,u201,u202,u203,u204,u205,u206,u207,u208,u209,u210,u211,u212,u213,u214,u215,u216,u217,u218,u219,u220,u221,u222,u223,u224,u225,u226,u227,u228,u229,u230,u231,u232,u233,u234,u235,u236,u237,u238,u239,u240,u241,u242,u243,u244,u245,u246,u247,u248,u249,u250,u251,u252,u253,u254,u255,u256,u257,u258,u259,u260,u261,u262,u263,u264,u265,u266,u267,u268,u269,u270,u271,u272,u273,u274,u275,u276,u277,u278,u279,u280,u281,u282,u283,u284,u285,u286,u287,u288,u289,u290,u291,u292,u293,u294,u295,u296,u297],[]⟩ w:=by
 have HC:=Lib.hid C;have HM:=Lib.hid M;have HRET:=Lib.hid hret;have HNX:=Lib.hid hnext;have HCT:=Lib.hid hcont;clear C M hret hnext hcont;have HH:=Lib.hid (And.intro hlen (And.intro hX (And.intro hz hH)));have c2:w.cell? ⟨g,2,none⟩=some (.int .u8 (h.kind.toNat:Int)):=HM.out.kind rfl;clear hlen hX hz hH
 conv => arg 2;whnf
 refine wp_seq_k (fun K hK => ?_)
 have HK:=Lib.hid hK;clear hK
 by_cases k120:h.kind=120
 ·have HKD:=Lib.hid k120
  have c2k:w.cell? ⟨g,2,none⟩=some (.int .u8 120):=HM.out.kind k120;have HSX:Hid (stepD (bs.drop a) s=extD (bs.drop a) h s):=Lib.hid (sd_ext HH.out.1 HH.out.2.1 HH.out.2.2.1 HH.out.2.2.2 (by rw [k120];rfl))
  clear c2 k120;refine wp_seq_k (fun K2 hK2 => ?_)
  have HK2:=Lib.hid hK2;clear hK2
  go_wp2
  refine HK2.out _ _ (wp_cond_true rfl ?_);exact mx22_120 HC.out HM.out HSX.out HKD.out HRET.out HCT.out
 by_cases k103:h.kind=103
 ·have HKD:=Lib.hid k103
  have c2k:w.cell? ⟨g,2,none⟩=some (.int .u8 103):=HM.out.kind k103;have HSX:Hid (stepD (bs.drop a) s=extD (bs.drop a) h s):=Lib.hid (sd_ext HH.out.1 HH.out.2.1 HH.out.2.2.1 HH.out.2.2.2 (by rw [k103];rfl))
  clear c2 k103;refine wp_seq_k (fun K2 hK2 => ?_)
  have HK2:=Lib.hid hK2;clear hK2
  go_wp2
  refine HK2.out _ _ (wp_cond_true rfl ?_);exact mx22_103 HC.out HM.out HSX.out HKD.out HRET.out HCT.out
 by_cases k76:h.kind=76
 ·have HKD:=Lib.hid k76
  have c2k:w.cell? ⟨g,2,none⟩=some (.int .u8 76):=HM.out.kind k76;have HSX:Hid (stepD (bs.drop a) s=extD (bs.drop a) h s):=Lib.hid (sd_ext HH.out.1 HH.out.2.1 HH.out.2.2.1 HH.out.2.2.2 (by rw [k76];rfl))
  clear c2 k76;refine wp_seq_k (fun K2 hK2 => ?_)
  have HK2:=Lib.hid hK2;clear hK2
  go_wp2
  refine HK2.out _ _ (wp_cond_true rfl ?_);exact mx22_76 HC.out HM.out HSX.out HKD.out HRET.out HCT.out
 by_cases k75:h.kind=75
 ·have HKD:=Lib.hid k75
  have c2k:w.cell? ⟨g,2,none⟩=some (.int .u8 75):=HM.out.kind k75;have HSX:Hid (stepD (bs.drop a) s=extD (bs.drop a) h s):=Lib.hid (sd_ext HH.out.1 HH.out.2.1 HH.out.2.2.1 HH.out.2.2.2 (by rw [k75];rfl))
  clear c2 k75;refine wp_seq_k (fun K2 hK2 => ?_)
  have HK2:=Lib.hid hK2;clear hK2
  go_wp2
  refine HK2.out _ _ (wp_cond_true rfl ?_);exact mx22_75 HC.out HM.out HSX.out HKD.out HRET.out HCT.out
 have HSX:Hid (stepD (bs.drop a) s=memD (bs.drop a) h s):=Lib.hid (sd_mem HH.out.1 HH.out.2.1 HH.out.2.2.1 HH.out.2.2.2 (by simp [isExt,k120,k76,k75,k103]))
 have nb:∀ j:UInt8,h.kind≠j → ((h.kind.toNat:Int) == (j.toNat:Int))=false:=fun j hj => by
  rw [beq_eq_false_iff_ne];intro h';exact hj (UInt8.toNat.inj (by omega))
 have n1:((h.kind.toNat:Int) == 120)=false:=nb 120 k120;have n2:((h.kind.toNat:Int) == 103)=false:=nb 103 k103;have n3:((h.kind.toNat:Int) == 76)=false:=nb 76 k76;have n4:((h.kind.toNat:Int) == 75)=false:=nb 75 k75;clear nb k120 k103 k76 k75
 go_wp2
 exact HK.out _ _ (mx41 HC.out HM.out HSX.out HRET.out HNX.out)
set_option maxHeartbeats 8000000 in
theorem mx19 {wa W1 wr:World} {bs:List UInt8} {a N c b0 o0:Nat} {s:RS} {vo:Value} {xs:List MP} {vg:Value} {q:Option Addr} {qn qd:Nat} {nm lk:ByteArray} {hx hl hk:Bool} {w:World} {g:Nat} {h:HeadV} {u1 u2 u13 u17 u18 u19 u20 u21 u22 u23 u24 u25 u26 u27 u28 u29 u30 u31 u32 u33 u34 u35 u36 u37 u38 u39 u40 u41 u42 u43 u44 u45 u46 u47 u48 u49 u50 u51 u52 u53 u54 u55 u56 u57 u58 u59 u60 u61 u62 u63 u64 u65 u66 u67 u68 u69 u70 u71 u72 u73 u74 u75 u76 u77 u78 u79 u80 u81 u82 u83 u84 u85 u86 u87 u88 u89 u90 u91 u92 u93 u94 u95 u96 u97 u98 u99 u100 u101 u102 u103 u104 u105 u106 u107 u108 u109 u110 u111 u112 u113 u114 u115 u116 u117 u118 u119 u120 u121 u122 u123 u124 u125 u126 u127 u128 u129 u130 u131 u132 u133 u134 u135 u136 u137 u138 u139 u140 u141 u142 u143 u144 u145 u146 u147 u148 u149 u150 u151 u152 u153 u154 u155 u156 u157 u158 u159 u160 u161 u162 u163 u164 u165 u166 u167 u168 u169 u170 u171 u172 u173 u174 u175 u176 u177 u178 u179 u180 u181 u182 u183 u184 u185 u186 u187 u188 u189 u190 u191 u192 u193 u194 u195 u196 u197 u198 u199 u200 u201 u202 u203 u204 u205 u206 u207 u208 u209 u210 u211 u212 u213 u214 u215 u216 u217 u218 u219 u220 u221 u222 u223 u224 u225 u226 u227 u228 u229 u230 u231 u232 u233 u234 u235 u236 u237 u238 u239 u240 u241 u242 u243 u244 u245 u246 u247 u248 u249 u250 u251 u252 u253 u254 u255 u256 u257 u258 u259 u260 u261 u262 u263 u264 u265 u266 u267 u268 u269 u270 u271 u272 u273 u274 u275 u276 u277 u278 u279 u280 u281 u282 u283 u284 u285 u286 u287 u288 u289 u290 u291 u292 u293 u294 u295 u296 u297:Value} {Q:Exit → Act → World → Prop} (C:M0 wa W1 wr bs a N c (some ⟨b0,o0,none⟩) s vo xs vg q qn qd nm.data.toList lk.data.toList hx hl hk) (M:MH wr w a N g h) (hlen:¬ (bs.drop a).length < 512) (Xb:List UInt8) (hX:(bs.drop a).take 512=Xb) (hz:zeroB Xb=false) {he:Int} (hH:headR Xb=(h,he)) (hret:RetAll wa a bs s Q) (hnext:NextAll wa W1 bs a N c (some ⟨b0,o0,none⟩) Q .normal) (hcont:NextAll wa W1 bs a N c (some ⟨b0,o0,none⟩) Q (.exit 1)):Code.wp Tryz.prog (tailC 19) Q ⟨#[.slice (some ⟨b0,o0,none⟩) N c,u1,u2,.pointer (some ⟨wa.heap.size,0,none⟩),vo,vg,.slice q qn qd,.string nm,.string lk,.bool hx,.bool hl,.bool hk,.int .i64 (a:Int),u13,.int .i64 ((a:Int)+512),.pointer (some ⟨g,0,none⟩),.int .i64 he,u17,u18,u19,u20,u21,u22,u23,u24,u25,u26,u27,u28,u29,u30,u31,u32,u33,u34,u35,u36,u37,u38,u39,u40,u41,u42,u43,u44,u45,u46,u47,u48,u49,u50,u51,u52,u53,u54,u55,u56,u57,u58,u59,u60,u61,u62,u63,u64,u65,u66,u67,u68,u69,u70,u71,u72,u73,u74,u75,u76,u77,u78,u79,u80,u81,u82,u83,u84,u85,u86,u87,u88,u89,u90,u91,u92,u93,u94,u95,u96,u97,u98,u99,u100,u101,u102,u103,u104,u105,u106,u107,u108,u109,u110,u111,u112,u113,u114,u115,u116,u117,u118,u119,u120,u121,u122,u123,u124,u125,u126,u127,u128,u129,u130,u131,u132,u133,u134,u135,u136,u137,u138,u139,u140,u141,u142,u143,u144,u145,u146,u147,u148,u149,u150,u151,u152,u153,u154,u155,u156,u157,u158,u159,u160,u161,u162,u163,u164,u165,u166,u167,u168,u169,u170,u171,u172,u173,u174,u175,u176,u177,u178,u179,u180,u181,u182,u183,u184,u185,u186,u187,u188,u189,u190,u191,u192,u193,u194,u195,u196,u197,u198,u199,u200,u201,u202,u203,u204,u205,u206,u207,u208,u209,u210,u211,u212,u213,u214,u215,u216,u217,u218,u219,u220,u221,u222,u223,u224,u225,u226,u227,u228,u229,u230,u231,u232,u233,u234,u235,u236,u237,u238,u239,u240,u241,u242,u243,u244,u245,u246,u247,u248,u249,u250,u251,u252,u253,u254,u255,u256,u257,u258,u259,u260,u261,u262,u263,u264,u265,u266,u267,u268,u269,u270,u271,u272,u273,u274,u275,u276,u277,u278,u279,u280,u281,u282,u283,u284,u285,u286,u287,u288,u289,u290,u291,u292,u293,u294,u295,u296,u297],[]⟩ w:=by
 have HC:=Lib.hid C;have HM:=Lib.hid M;have HRET:=Lib.hid hret;have HNX:=Lib.hid hnext;have HCT:=Lib.hid hcont;clear C M hret hnext hcont;have HH:=Lib.hid (And.intro hlen (And.intro hX (And.intro hz hH)));clear hlen hX hz hH
 conv => arg 2;whnf
 refine wp_seq_k (fun K hK => ?_)
 have HK:=Lib.hid hK;clear hK
 by_cases he0:he=0
 ·subst he0
  go_wp2
  exact HK.out _ _ (mx21 HC.out HM.out HH.out.1 Xb HH.out.2.1 HH.out.2.2.1 HH.out.2.2.2 HRET.out HNX.out HCT.out)
 ·have hne:(he != 0)=true:=by simpa using he0
  have E:Hid (stepD (bs.drop a) s=.fault he):=Lib.hid (sd_nohead HH.out.1 HH.out.2.1 HH.out.2.2.1 HH.out.2.2.2 he0);clear he0;obtain ⟨r0,r1,f0,f1⟩:=box_at HC.out.box HM.out.sn
  go_wp2
  exact ret_at (HRET.out he E.out) HC.out.box HC.out.b1 HC.out.rd.bel HM.out.sn _ rfl rfl
set_option maxHeartbeats 8000000 in
theorem mx18 {wa W1 wr:World} {bs:List UInt8} {a N c b0 o0:Nat} {s:RS} {vo:Value} {xs:List MP} {vg:Value} {q:Option Addr} {qn qd:Nat} {nm lk:ByteArray} {hx hl hk:Bool} {u1 u2 u15 u16 u17 u18 u19 u20 u21 u22 u23 u24 u25 u26 u27 u28 u29 u30 u31 u32 u33 u34 u35 u36 u37 u38 u39 u40 u41 u42 u43 u44 u45 u46 u47 u48 u49 u50 u51 u52 u53 u54 u55 u56 u57 u58 u59 u60 u61 u62 u63 u64 u65 u66 u67 u68 u69 u70 u71 u72 u73 u74 u75 u76 u77 u78 u79 u80 u81 u82 u83 u84 u85 u86 u87 u88 u89 u90 u91 u92 u93 u94 u95 u96 u97 u98 u99 u100 u101 u102 u103 u104 u105 u106 u107 u108 u109 u110 u111 u112 u113 u114 u115 u116 u117 u118 u119 u120 u121 u122 u123 u124 u125 u126 u127 u128 u129 u130 u131 u132 u133 u134 u135 u136 u137 u138 u139 u140 u141 u142 u143 u144 u145 u146 u147 u148 u149 u150 u151 u152 u153 u154 u155 u156 u157 u158 u159 u160 u161 u162 u163 u164 u165 u166 u167 u168 u169 u170 u171 u172 u173 u174 u175 u176 u177 u178 u179 u180 u181 u182 u183 u184 u185 u186 u187 u188 u189 u190 u191 u192 u193 u194 u195 u196 u197 u198 u199 u200 u201 u202 u203 u204 u205 u206 u207 u208 u209 u210 u211 u212 u213 u214 u215 u216 u217 u218 u219 u220 u221 u222 u223 u224 u225 u226 u227 u228 u229 u230 u231 u232 u233 u234 u235 u236 u237 u238 u239 u240 u241 u242 u243 u244 u245 u246 u247 u248 u249 u250 u251 u252 u253 u254 u255 u256 u257 u258 u259 u260 u261 u262 u263 u264 u265 u266 u267 u268 u269 u270 u271 u272 u273 u274 u275 u276 u277 u278 u279 u280 u281 u282 u283 u284 u285 u286 u287 u288 u289 u290 u291 u292 u293 u294 u295 u296 u297:Value} {Q:Exit → Act → World → Prop} (C:M0 wa W1 wr bs a N c (some ⟨b0,o0,none⟩) s vo xs vg q qn qd nm.data.toList lk.data.toList hx hl hk) (ha:a+512≤N) (Xb:List UInt8) (hX:(bs.drop a).take 512=Xb) (hz:zeroB Xb=false) (hret:RetAll wa a bs s Q) (hnext:NextAll wa W1 bs a N c (some ⟨b0,o0,none⟩) Q .normal) (hcont:NextAll wa W1 bs a N c (some ⟨b0,o0,none⟩) Q (.exit 1)):Code.wp Tryz.prog (tailC 18) Q ⟨#[.slice (some ⟨b0,o0,none⟩) N c,u1,u2,.pointer (some ⟨wa.heap.size,0,none⟩),vo,vg,.slice q qn qd,.string nm,.string lk,.bool hx,.bool hl,.bool hk,.int .i64 (a:Int),.slice (some ⟨b0,o0+a,none⟩) 512 (c - a),.int .i64 ((a:Int)+512),u15,u16,u17,u18,u19,u20,u21,u22,u23,u24,u25,u26,u27,u28,u29,u30,u31,u32,u33,u34,u35,u36,u37,u38,u39,u40,u41,u42,u43,u44,u45,u46,u47,u48,u49,u50,u51,u52,u53,u54,u55,u56,u57,u58,u59,u60,u61,u62,u63,u64,u65,u66,u67,u68,u69,u70,u71,u72,u73,u74,u75,u76,u77,u78,u79,u80,u81,u82,u83,u84,u85,u86,u87,u88,u89,u90,u91,u92,u93,u94,u95,u96,u97,u98,u99,u100,u101,u102,u103,u104,u105,u106,u107,u108,u109,u110,u111,u112,u113,u114,u115,u116,u117,u118,u119,u120,u121,u122,u123,u124,u125,u126,u127,u128,u129,u130,u131,u132,u133,u134,u135,u136,u137,u138,u139,u140,u141,u142,u143,u144,u145,u146,u147,u148,u149,u150,u151,u152,u153,u154,u155,u156,u157,u158,u159,u160,u161,u162,u163,u164,u165,u166,u167,u168,u169,u170,u171,u172,u173,u174,u175,u176,u177,u178,u179,u180,u181,u182,u183,u184,u185,u186,u187,u188,u189,u190,u191,u192,u193,u194,u195,u196,u197,u198,u199,u200,u201,u202,u203,u204,u205,u206,u207,u208,u209,u210,u211,u212,u213,u214,u215,u216,u217,u218,u219,u220,u221,u222,u223,u224,u225,u226,u227,u228,u229,u230,u231,u232,u233,u234,u235,u236,u237,u238,u239,u240,u241,u242,u243,u244,u245,u246,u247,u248,u249,u250,u251,u252,u253,u254,u255,u256,u257,u258,u259,u260,u261,u262,u263,u264,u265,u266,u267,u268,u269,u270,u271,u272,u273,u274,u275,u276,u277,u278,u279,u280,u281,u282,u283,u284,u285,u286,u287,u288,u289,u290,u291,u292,u293,u294,u295,u296,u297],[]⟩ wr:=by
 have HC:=Lib.hid C;have HRET:=Lib.hid hret;have HNX:=Lib.hid hnext;have HCT:=Lib.hid hcont;clear C hret hnext hcont;have hlen:¬ (bs.drop a).length < 512:=by rw [List.length_drop,HC.out.len];omega
 have hXl:Xb.length=512:=by rw [← hX,List.length_take,List.length_drop,HC.out.len];omega
 have hN:=HC.out.hN;have hNc:=HC.out.hc;have hX0:=(HC.out.bat.drop (k:=a) (c:=c) (by omega) hNc HC.out.len).take (k:=512) (by omega)
 rw [if_neg (by omega),Option.map_some,Lib.add_plain,hX] at hX0
 obtain ⟨⟨h,he⟩,hH⟩:∃ x,headR Xb=x:=⟨_,rfl⟩;have hhd:=rhead_any (some ⟨b0,o0+a,none⟩) 512 (c - a) Xb wr hXl (by omega) (by have:=HC.out.hcm;omega) hX0
 rw [hH] at hhd;unfold headA headC at hhd;have HHD:=Lib.hid hhd;have hbd:=headR_bd Xb;rw [hH] at hbd;have HBD:=Lib.hid hbd;have HH:=Lib.hid (And.intro hlen (And.intro hX (And.intro hz hH)));clear hhd hH hbd hlen hXl hX0 hX hz
 conv => arg 2;whnf
 refine wp_seq_k (fun K hK => ?_)
 have HK:=Lib.hid hK;clear hK
 go_wp2_with fail
 refine HHD.out.mono ?_
 rintro e w2 ⟨rfl,hk2⟩;have HB2:=Lib.hid (hk2.below (Nat.le_refl _) (fun _ h => h.elim))
 clear hk2 HHD
 go_wp2
 obtain ⟨w3,hw⟩:∃ w3,w2.alloc (.cells #[.string (str h.name),.string (str h.link),.int .u8 (h.kind.toNat:Int),.int .i64 h.mode,.int .i64 h.uid,.int .i64 h.gid,.int .i64 h.time,.int .i64 h.size,.bool h.gnu] 57)=w3:=⟨_,rfl⟩
 have hM:MH wr w3 a N w2.heap.size h:=by
  rw [← hw];exact ⟨HB2.out.alloc HB2.out.size _,Blk.new w2 _ _,HB2.out.size,ha,HBD.out⟩
 rw [hw];exact HK.out _ _ (mx19 HC.out hM HH.out.1 Xb HH.out.2.1 HH.out.2.2.1 HH.out.2.2.2 HRET.out HNX.out HCT.out)
def DoneAll (wa W1 wr:World) (bs:List UInt8) (a:Nat) (s:RS) (vo:Value) (Q:Exit → Act → World → Prop):Prop:=
 stepD (bs.drop a) s=.done → ∀ (T:Array Value) (w':World),T.getD 3 undef=.pointer (some ⟨wa.heap.size,0,none⟩) → T.getD 2 undef=vo → Blk w' wa.heap.size 28 #[.int .i64 0,.int .i64 0] → Kept (oneB wa.heap.size) wr w' → Below wa.heap.size wa w' → Q .ret ⟨T,[]⟩ w'
set_option maxHeartbeats 8000000 in
theorem mx10 {wa W1 wr:World} {bs:List UInt8} {a N c b0 o0:Nat} {s:RS} {vo:Value} {xs:List MP} {vg:Value} {q:Option Addr} {qn qd:Nat} {nm lk:ByteArray} {hx hl hk:Bool} {u1 u2 u15 u16 u17 u18 u19 u20 u21 u22 u23 u24 u25 u26 u27 u28 u29 u30 u31 u32 u33 u34 u35 u36 u37 u38 u39 u40 u41 u42 u43 u44 u45 u46 u47 u48 u49 u50 u51 u52 u53 u54 u55 u56 u57 u58 u59 u60 u61 u62 u63 u64 u65 u66 u67 u68 u69 u70 u71 u72 u73 u74 u75 u76 u77 u78 u79 u80 u81 u82 u83 u84 u85 u86 u87 u88 u89 u90 u91 u92 u93 u94 u95 u96 u97 u98 u99 u100 u101 u102 u103 u104 u105 u106 u107 u108 u109 u110 u111 u112 u113 u114 u115 u116 u117 u118 u119 u120 u121 u122 u123 u124 u125 u126 u127 u128 u129 u130 u131 u132 u133 u134 u135 u136 u137 u138 u139 u140 u141 u142 u143 u144 u145 u146 u147 u148 u149 u150 u151 u152 u153 u154 u155 u156 u157 u158 u159 u160 u161 u162 u163 u164 u165 u166 u167 u168 u169 u170 u171 u172 u173 u174 u175 u176 u177 u178 u179 u180 u181 u182 u183 u184 u185 u186 u187 u188 u189 u190 u191 u192 u193 u194 u195 u196 u197 u198 u199 u200 u201 u202 u203 u204 u205 u206 u207 u208 u209 u210 u211 u212 u213 u214 u215 u216 u217 u218 u219 u220 u221 u222 u223 u224 u225 u226 u227 u228 u229 u230 u231 u232 u233 u234 u235 u236 u237 u238 u239 u240 u241 u242 u243 u244 u245 u246 u247 u248 u249 u250 u251 u252 u253 u254 u255 u256 u257 u258 u259 u260 u261 u262 u263 u264 u265 u266 u267 u268 u269 u270 u271 u272 u273 u274 u275 u276 u277 u278 u279 u280 u281 u282 u283 u284 u285 u286 u287 u288 u289 u290 u291 u292 u293 u294 u295 u296 u297:Value} {Q:Exit → Act → World → Prop} (C:M0 wa W1 wr bs a N c (some ⟨b0,o0,none⟩) s vo xs vg q qn qd nm.data.toList lk.data.toList hx hl hk) (ha:a+512≤N) (Xb:List UInt8) (hX:(bs.drop a).take 512=Xb) (hret:RetAll wa a bs s Q) (hdone:DoneAll wa W1 wr bs a s vo Q) (hnext:NextAll wa W1 bs a N c (some ⟨b0,o0,none⟩) Q .normal) (hcont:NextAll wa W1 bs a N c (some ⟨b0,o0,none⟩) Q (.exit 1)):Code.wp Tryz.prog (tailC 10) Q ⟨#[.slice (some ⟨b0,o0,none⟩) N c,u1,u2,.pointer (some ⟨wa.heap.size,0,none⟩),vo,vg,.slice q qn qd,.string nm,.string lk,.bool hx,.bool hl,.bool hk,.int .i64 (a:Int),.slice (some ⟨b0,o0+a,none⟩) 512 (c - a),.int .i64 ((a:Int)+512),u15,u16,u17,u18,u19,u20,u21,u22,u23,u24,u25,u26,u27,u28,u29,u30,u31,u32,u33,u34,u35,u36,u37,u38,u39,u40,u41,u42,u43,u44,u45,u46,u47,u48,u49,u50,u51,u52,u53,u54,u55,u56,u57,u58,u59,u60,u61,u62,u63,u64,u65,u66,u67,u68,u69,u70,u71,u72,u73,u74,u75,u76,u77,u78,u79,u80,u81,u82,u83,u84,u85,u86,u87,u88,u89,u90,u91,u92,u93,u94,u95,u96,u97,u98,u99,u100,u101,u102,u103,u104,u105,u106,u107,u108,u109,u110,u111,u112,u113,u114,u115,u116,u117,u118,u119,u120,u121,u122,u123,u124,u125,u126,u127,u128,u129,u130,u131,u132,u133,u134,u135,u136,u137,u138,u139,u140,u141,u142,u143,u144,u145,u146,u147,u148,u149,u150,u151,u152,u153,u154,u155,u156,u157,u158,u159,u160,u161,u162,u163,u164,u165,u166,u167,u168,u169,u170,u171,u172,u173,u174,u175,u176,u177,u178,u179,u180,u181,u182,u183,u184,u185,u186,u187,u188,u189,u190,u191,u192,u193,u194,u195,u196,u197,u198,u199,u200,u201,u202,u203,u204,u205,u206,u207,u208,u209,u210,u211,u212,u213,u214,u215,u216,u217,u218,u219,u220,u221,u222,u223,u224,u225,u226,u227,u228,u229,u230,u231,u232,u233,u234,u235,u236,u237,u238,u239,u240,u241,u242,u243,u244,u245,u246,u247,u248,u249,u250,u251,u252,u253,u254,u255,u256,u257,u258,u259,u260,u261,u262,u263,u264,u265,u266,u267,u268,u269,u270,u271,u272,u273,u274,u275,u276,u277,u278,u279,u280,u281,u282,u283,u284,u285,u286,u287,u288,u289,u290,u291,u292,u293,u294,u295,u296,u297],[]⟩ wr:=by
 have HC:=Lib.hid C;have HRET:=Lib.hid hret;have HNX:=Lib.hid hnext;have HCT:=Lib.hid hcont;have HDN:=Lib.hid hdone;clear C hret hnext hcont hdone;have hlen:¬ (bs.drop a).length < 512:=by rw [List.length_drop,HC.out.len];omega
 have hXl:Xb.length=512:=by rw [← hX,List.length_take,List.length_drop,HC.out.len];omega
 have hN:=HC.out.hN;have hNc:=HC.out.hc;have hX0:=(HC.out.bat.drop (k:=a) (c:=c) (by omega) hNc HC.out.len).take (k:=512) (by omega)
 rw [if_neg (by omega),Option.map_some,Lib.add_plain,hX] at hX0
 have hY0:=HC.out.bat.drop (k:=a+512) (c:=c) (by omega) hNc HC.out.len
 have HRZ:=Lib.hid (rzero_any _ 512 (c - a) Xb wr hXl (by decide) hX0)
 have HXX:=Lib.hid hX;have HLE:=Lib.hid hlen;have HY0:=Lib.hid hY0;have hsl1:(a:Int)+512≤(c:Int):=by omega
 have haN:=ha;clear hX0 hY0 hX hXl hlen
 conv => arg 2;whnf
 refine wp_seq_k (fun K hK => ?_)
 have HK:=Lib.hid hK;clear hK
 go_wp2_with fail
 refine HRZ.out.mono ?_
 rintro e wz ⟨rfl,rfl⟩;obtain ⟨zx,hzx⟩:∃ zx,zeroB Xb=zx:=⟨_,rfl⟩;rw [hzx];have HZ:=Lib.hid hzx;clear hzx HRZ
 cases zx with
 | false =>
   go_wp2
   exact HK.out _ _ (mx18 HC.out ha Xb HXX.out HZ.out HRET.out HNX.out HCT.out)
 | true =>
   by_cases h1024:N - (a+512) < 512
   ·have h1024z:(N:Int) - ((a:Int)+512) < 512:=by omega
    have E:Hid (stepD (bs.drop a) s=.fault 2):=Lib.hid (sd_zero_short HLE.out HXX.out HZ.out (by rw [List.length_drop,HC.out.len];omega))
    obtain ⟨r0,r1,f0,f1⟩:=box_at HC.out.box (Below.refl wr.heap.size wr)
    go_wp2
    exact ret_at (HRET.out 2 E.out) HC.out.box HC.out.b1 HC.out.rd.bel (Below.refl wr.heap.size wr) _ rfl rfl
   ·have h1024z:¬ (N:Int) - ((a:Int)+512) < 512:=by omega
    have HL2:Hid (¬ (bs.drop a).length - 512 < 512):=Lib.hid (by rw [List.length_drop,HC.out.len];omega)
    have hcb:¬ c=a+512:=by omega
    have hyy:=HY0.out;rw [if_neg hcb,Option.map_some,Lib.add_plain] at hyy;have HYY:=Lib.hid hyy;have hsl2:(a:Int)+512≤(N:Int):=by omega
    clear hyy
    go_wp2_with fail
    refine (rzero_any _ (N - (a+512)) (c - (a+512)) (bs.drop (a+512)) wr (by rw [List.length_drop,HC.out.len]) (by omega) HYY.out).mono ?_
    rintro e wz ⟨rfl,rfl⟩;obtain ⟨zy,hzy⟩:∃ zy,zeroB (bs.drop (a+512))=zy:=⟨_,rfl⟩;rw [hzy];have HZY:Hid (zeroB ((bs.drop a).drop 512)=zy):=Lib.hid (by rw [List.drop_drop];exact hzy)
    clear hzy
    cases zy with
    | false =>
      have E:Hid (stepD (bs.drop a) s=.fault 9):=Lib.hid (sd_zero_bad HLE.out HXX.out HZ.out HL2.out HZY.out);obtain ⟨r0,r1,f0,f1⟩:=box_at HC.out.box (Below.refl wr.heap.size wr)
      go_wp2
      exact ret_at (HRET.out 9 E.out) HC.out.box HC.out.b1 HC.out.rd.bel (Below.refl wr.heap.size wr) _ rfl rfl
    | true =>
      cases hx with
      | true =>
        have E:Hid (stepD (bs.drop a) s=.fault 5):=Lib.hid (sd_zero_wait HLE.out HXX.out HZ.out HL2.out HZY.out (.inl HC.out.rd.hasX));obtain ⟨r0,r1,f0,f1⟩:=box_at HC.out.box (Below.refl wr.heap.size wr)
        go_wp2
        exact ret_at (HRET.out 5 E.out) HC.out.box HC.out.b1 HC.out.rd.bel (Below.refl wr.heap.size wr) _ rfl rfl
      | false =>
        cases hl with
        | true =>
          have E:Hid (stepD (bs.drop a) s=.fault 5):=Lib.hid (sd_zero_wait HLE.out HXX.out HZ.out HL2.out HZY.out (.inr (.inl (by rw [HC.out.rd.name];rfl))))
          obtain ⟨r0,r1,f0,f1⟩:=box_at HC.out.box (Below.refl wr.heap.size wr)
          go_wp2
          exact ret_at (HRET.out 5 E.out) HC.out.box HC.out.b1 HC.out.rd.bel (Below.refl wr.heap.size wr) _ rfl rfl
        | false =>
          cases hk with
          | true =>
            have E:Hid (stepD (bs.drop a) s=.fault 5):=Lib.hid (sd_zero_wait HLE.out HXX.out HZ.out HL2.out HZY.out (.inr (.inr (by rw [HC.out.rd.link];rfl))))
            obtain ⟨r0,r1,f0,f1⟩:=box_at HC.out.box (Below.refl wr.heap.size wr)
            go_wp2
            exact ret_at (HRET.out 5 E.out) HC.out.box HC.out.b1 HC.out.rd.bel (Below.refl wr.heap.size wr) _ rfl rfl
          | false =>
            have E:Hid (stepD (bs.drop a) s=.done):=Lib.hid (sd_zero_done HLE.out HXX.out HZ.out HL2.out HZY.out (by rw [HC.out.rd.hasX,HC.out.rd.name,HC.out.rd.link];simp))
            obtain ⟨r0,r1,f0,f1⟩:=box_at HC.out.box (Below.refl wr.heap.size wr)
            go_wp2
            exact HDN.out E.out _ _ rfl rfl (fault_box HC.out.box (Below.refl wr.heap.size wr) 0 0) (((Kept.refl (oneB wa.heap.size) wr).setCell (a:=⟨wa.heap.size,0,none⟩) (.inr rfl) _).setCell (a:=⟨wa.heap.size,1,none⟩) (.inr rfl) _) (fault_below HC.out.b1 HC.out.rd.bel (Below.refl wr.heap.size wr) _ _)
set_option maxHeartbeats 4000000 in
theorem mx9 {wa W1 wr:World} {bs:List UInt8} {a N c b0 o0:Nat} {s:RS} {vo:Value} {xs:List MP} {vg:Value} {q:Option Addr} {qn qd:Nat} {nm lk:ByteArray} {hx hl hk:Bool} {u1 u2 u14 u15 u16 u17 u18 u19 u20 u21 u22 u23 u24 u25 u26 u27 u28 u29 u30 u31 u32 u33 u34 u35 u36 u37 u38 u39 u40 u41 u42 u43 u44 u45 u46 u47 u48 u49 u50 u51 u52 u53 u54 u55 u56 u57 u58 u59 u60 u61 u62 u63 u64 u65 u66 u67 u68 u69 u70 u71 u72 u73 u74 u75 u76 u77 u78 u79 u80 u81 u82 u83 u84 u85 u86 u87 u88 u89 u90 u91 u92 u93 u94 u95 u96 u97 u98 u99 u100 u101 u102 u103 u104 u105 u106 u107 u108 u109 u110 u111 u112 u113 u114 u115 u116 u117 u118 u119 u120 u121 u122 u123 u124 u125 u126 u127 u128 u129 u130 u131 u132 u133 u134 u135 u136 u137 u138 u139 u140 u141 u142 u143 u144 u145 u146 u147 u148 u149 u150 u151 u152 u153 u154 u155 u156 u157 u158 u159 u160 u161 u162 u163 u164 u165 u166 u167 u168 u169 u170 u171 u172 u173 u174 u175 u176 u177 u178 u179 u180 u181 u182 u183 u184 u185 u186 u187 u188 u189 u190 u191 u192 u193 u194 u195 u196 u197 u198 u199 u200 u201 u202 u203 u204 u205 u206 u207 u208 u209 u210 u211 u212 u213 u214 u215 u216 u217 u218 u219 u220 u221 u222 u223 u224 u225 u226 u227 u228 u229 u230 u231 u232 u233 u234 u235 u236 u237 u238 u239 u240 u241 u242 u243 u244 u245 u246 u247 u248 u249 u250 u251 u252 u253 u254 u255 u256 u257 u258 u259 u260 u261 u262 u263 u264 u265 u266 u267 u268 u269 u270 u271 u272 u273 u274 u275 u276 u277 u278 u279 u280 u281 u282 u283 u284 u285 u286 u287 u288 u289 u290 u291 u292 u293 u294 u295 u296 u297:Value} {Q:Exit → Act → World → Prop} (C:M0 wa W1 wr bs a N c (some ⟨b0,o0,none⟩) s vo xs vg q qn qd nm.data.toList lk.data.toList hx hl hk) (ha:a+512≤N) (Xb:List UInt8) (hX:(bs.drop a).take 512=Xb) (hret:RetAll wa a bs s Q) (hdone:DoneAll wa W1 wr bs a s vo Q) (hnext:NextAll wa W1 bs a N c (some ⟨b0,o0,none⟩) Q .normal) (hcont:NextAll wa W1 bs a N c (some ⟨b0,o0,none⟩) Q (.exit 1)):Code.wp Tryz.prog (tailC 9) Q ⟨#[.slice (some ⟨b0,o0,none⟩) N c,u1,u2,.pointer (some ⟨wa.heap.size,0,none⟩),vo,vg,.slice q qn qd,.string nm,.string lk,.bool hx,.bool hl,.bool hk,.int .i64 (a:Int),.slice (some ⟨b0,o0+a,none⟩) 512 (c - a),u14,u15,u16,u17,u18,u19,u20,u21,u22,u23,u24,u25,u26,u27,u28,u29,u30,u31,u32,u33,u34,u35,u36,u37,u38,u39,u40,u41,u42,u43,u44,u45,u46,u47,u48,u49,u50,u51,u52,u53,u54,u55,u56,u57,u58,u59,u60,u61,u62,u63,u64,u65,u66,u67,u68,u69,u70,u71,u72,u73,u74,u75,u76,u77,u78,u79,u80,u81,u82,u83,u84,u85,u86,u87,u88,u89,u90,u91,u92,u93,u94,u95,u96,u97,u98,u99,u100,u101,u102,u103,u104,u105,u106,u107,u108,u109,u110,u111,u112,u113,u114,u115,u116,u117,u118,u119,u120,u121,u122,u123,u124,u125,u126,u127,u128,u129,u130,u131,u132,u133,u134,u135,u136,u137,u138,u139,u140,u141,u142,u143,u144,u145,u146,u147,u148,u149,u150,u151,u152,u153,u154,u155,u156,u157,u158,u159,u160,u161,u162,u163,u164,u165,u166,u167,u168,u169,u170,u171,u172,u173,u174,u175,u176,u177,u178,u179,u180,u181,u182,u183,u184,u185,u186,u187,u188,u189,u190,u191,u192,u193,u194,u195,u196,u197,u198,u199,u200,u201,u202,u203,u204,u205,u206,u207,u208,u209,u210,u211,u212,u213,u214,u215,u216,u217,u218,u219,u220,u221,u222,u223,u224,u225,u226,u227,u228,u229,u230,u231,u232,u233,u234,u235,u236,u237,u238,u239,u240,u241,u242,u243,u244,u245,u246,u247,u248,u249,u250,u251,u252,u253,u254,u255,u256,u257,u258,u259,u260,u261,u262,u263,u264,u265,u266,u267,u268,u269,u270,u271,u272,u273,u274,u275,u276,u277,u278,u279,u280,u281,u282,u283,u284,u285,u286,u287,u288,u289,u290,u291,u292,u293,u294,u295,u296,u297],[]⟩ wr:=by
 have HC:=Lib.hid C;have HRET:=Lib.hid hret;have HNX:=Lib.hid hnext;have HCT:=Lib.hid hcont;have HDN:=Lib.hid hdone;clear C hret hnext hcont hdone;have haN:=ha;have hN:=HC.out.hN;have HX:=Lib.hid hX;clear hX
 conv => arg 2;whnf
 refine wp_seq_k (fun K hK => ?_)
 have HK:=Lib.hid hK;clear hK
 go_wp2
 exact HK.out _ _ (mx10 HC.out ha Xb HX.out HRET.out HDN.out HNX.out HCT.out)
set_option maxHeartbeats 4000000 in
theorem mx8 {wa W1 wr:World} {bs:List UInt8} {a N c b0 o0:Nat} {s:RS} {vo:Value} {xs:List MP} {vg:Value} {q:Option Addr} {qn qd:Nat} {nm lk:ByteArray} {hx hl hk:Bool} {u1 u2 u13 u14 u15 u16 u17 u18 u19 u20 u21 u22 u23 u24 u25 u26 u27 u28 u29 u30 u31 u32 u33 u34 u35 u36 u37 u38 u39 u40 u41 u42 u43 u44 u45 u46 u47 u48 u49 u50 u51 u52 u53 u54 u55 u56 u57 u58 u59 u60 u61 u62 u63 u64 u65 u66 u67 u68 u69 u70 u71 u72 u73 u74 u75 u76 u77 u78 u79 u80 u81 u82 u83 u84 u85 u86 u87 u88 u89 u90 u91 u92 u93 u94 u95 u96 u97 u98 u99 u100 u101 u102 u103 u104 u105 u106 u107 u108 u109 u110 u111 u112 u113 u114 u115 u116 u117 u118 u119 u120 u121 u122 u123 u124 u125 u126 u127 u128 u129 u130 u131 u132 u133 u134 u135 u136 u137 u138 u139 u140 u141 u142 u143 u144 u145 u146 u147 u148 u149 u150 u151 u152 u153 u154 u155 u156 u157 u158 u159 u160 u161 u162 u163 u164 u165 u166 u167 u168 u169 u170 u171 u172 u173 u174 u175 u176 u177 u178 u179 u180 u181 u182 u183 u184 u185 u186 u187 u188 u189 u190 u191 u192 u193 u194 u195 u196 u197 u198 u199 u200 u201 u202 u203 u204 u205 u206 u207 u208 u209 u210 u211 u212 u213 u214 u215 u216 u217 u218 u219 u220 u221 u222 u223 u224 u225 u226 u227 u228 u229 u230 u231 u232 u233 u234 u235 u236 u237 u238 u239 u240 u241 u242 u243 u244 u245 u246 u247 u248 u249 u250 u251 u252 u253 u254 u255 u256 u257 u258 u259 u260 u261 u262 u263 u264 u265 u266 u267 u268 u269 u270 u271 u272 u273 u274 u275 u276 u277 u278 u279 u280 u281 u282 u283 u284 u285 u286 u287 u288 u289 u290 u291 u292 u293 u294 u295 u296 u297:Value} {Q:Exit → Act → World → Prop} (C:M0 wa W1 wr bs a N c (some ⟨b0,o0,none⟩) s vo xs vg q qn qd nm.data.toList lk.data.toList hx hl hk) (ha:a+512≤N) (Xb:List UInt8) (hX:(bs.drop a).take 512=Xb) (hret:RetAll wa a bs s Q) (hdone:DoneAll wa W1 wr bs a s vo Q) (hnext:NextAll wa W1 bs a N c (some ⟨b0,o0,none⟩) Q .normal) (hcont:NextAll wa W1 bs a N c (some ⟨b0,o0,none⟩) Q (.exit 1)):Code.wp Tryz.prog (tailC 8) Q ⟨#[.slice (some ⟨b0,o0,none⟩) N c,u1,u2,.pointer (some ⟨wa.heap.size,0,none⟩),vo,vg,.slice q qn qd,.string nm,.string lk,.bool hx,.bool hl,.bool hk,.int .i64 (a:Int),u13,u14,u15,u16,u17,u18,u19,u20,u21,u22,u23,u24,u25,u26,u27,u28,u29,u30,u31,u32,u33,u34,u35,u36,u37,u38,u39,u40,u41,u42,u43,u44,u45,u46,u47,u48,u49,u50,u51,u52,u53,u54,u55,u56,u57,u58,u59,u60,u61,u62,u63,u64,u65,u66,u67,u68,u69,u70,u71,u72,u73,u74,u75,u76,u77,u78,u79,u80,u81,u82,u83,u84,u85,u86,u87,u88,u89,u90,u91,u92,u93,u94,u95,u96,u97,u98,u99,u100,u101,u102,u103,u104,u105,u106,u107,u108,u109,u110,u111,u112,u113,u114,u115,u116,u117,u118,u119,u120,u121,u122,u123,u124,u125,u126,u127,u128,u129,u130,u131,u132,u133,u134,u135,u136,u137,u138,u139,u140,u141,u142,u143,u144,u145,u146,u147,u148,u149,u150,u151,u152,u153,u154,u155,u156,u157,u158,u159,u160,u161,u162,u163,u164,u165,u166,u167,u168,u169,u170,u171,u172,u173,u174,u175,u176,u177,u178,u179,u180,u181,u182,u183,u184,u185,u186,u187,u188,u189,u190,u191,u192,u193,u194,u195,u196,u197,u198,u199,u200,u201,u202,u203,u204,u205,u206,u207,u208,u209,u210,u211,u212,u213,u214,u215,u216,u217,u218,u219,u220,u221,u222,u223,u224,u225,u226,u227,u228,u229,u230,u231,u232,u233,u234,u235,u236,u237,u238,u239,u240,u241,u242,u243,u244,u245,u246,u247,u248,u249,u250,u251,u252,u253,u254,u255,u256,u257,u258,u259,u260,u261,u262,u263,u264,u265,u266,u267,u268,u269,u270,u271,u272,u273,u274,u275,u276,u277,u278,u279,u280,u281,u282,u283,u284,u285,u286,u287,u288,u289,u290,u291,u292,u293,u294,u295,u296,u297],[]⟩ wr:=by
 have HC:=Lib.hid C;have HRET:=Lib.hid hret;have HNX:=Lib.hid hnext;have HCT:=Lib.hid hcont;have HDN:=Lib.hid hdone;clear C hret hnext hcont hdone;have hN:=HC.out.hN;have hNc:=HC.out.hc;have hca:¬ c=a:=by omega
 have hsl1:(a:Int)+512≤(c:Int):=by omega
 have haN:=ha;have HX:=Lib.hid hX;clear hX
 conv => arg 2;whnf
 refine wp_seq_k (fun K hK => ?_)
 have HK:=Lib.hid hK;clear hK
 go_wp2
 rw [show a+512 - a=512 by omega]
 exact HK.out _ _ (mx9 HC.out ha Xb HX.out HRET.out HDN.out HNX.out HCT.out)
set_option maxHeartbeats 4000000 in
theorem mx6 {wa W1 wr:World} {bs:List UInt8} {a N c:Nat} {p:Option Addr} {s:RS} {vo:Value} {xs:List MP} {vg:Value} {q:Option Addr} {qn qd:Nat} {nm lk:ByteArray} {hx hl hk:Bool} {u1 u2 u13 u14 u15 u16 u17 u18 u19 u20 u21 u22 u23 u24 u25 u26 u27 u28 u29 u30 u31 u32 u33 u34 u35 u36 u37 u38 u39 u40 u41 u42 u43 u44 u45 u46 u47 u48 u49 u50 u51 u52 u53 u54 u55 u56 u57 u58 u59 u60 u61 u62 u63 u64 u65 u66 u67 u68 u69 u70 u71 u72 u73 u74 u75 u76 u77 u78 u79 u80 u81 u82 u83 u84 u85 u86 u87 u88 u89 u90 u91 u92 u93 u94 u95 u96 u97 u98 u99 u100 u101 u102 u103 u104 u105 u106 u107 u108 u109 u110 u111 u112 u113 u114 u115 u116 u117 u118 u119 u120 u121 u122 u123 u124 u125 u126 u127 u128 u129 u130 u131 u132 u133 u134 u135 u136 u137 u138 u139 u140 u141 u142 u143 u144 u145 u146 u147 u148 u149 u150 u151 u152 u153 u154 u155 u156 u157 u158 u159 u160 u161 u162 u163 u164 u165 u166 u167 u168 u169 u170 u171 u172 u173 u174 u175 u176 u177 u178 u179 u180 u181 u182 u183 u184 u185 u186 u187 u188 u189 u190 u191 u192 u193 u194 u195 u196 u197 u198 u199 u200 u201 u202 u203 u204 u205 u206 u207 u208 u209 u210 u211 u212 u213 u214 u215 u216 u217 u218 u219 u220 u221 u222 u223 u224 u225 u226 u227 u228 u229 u230 u231 u232 u233 u234 u235 u236 u237 u238 u239 u240 u241 u242 u243 u244 u245 u246 u247 u248 u249 u250 u251 u252 u253 u254 u255 u256 u257 u258 u259 u260 u261 u262 u263 u264 u265 u266 u267 u268 u269 u270 u271 u272 u273 u274 u275 u276 u277 u278 u279 u280 u281 u282 u283 u284 u285 u286 u287 u288 u289 u290 u291 u292 u293 u294 u295 u296 u297:Value} {Q:Exit → Act → World → Prop} (C:M0 wa W1 wr bs a N c p s vo xs vg q qn qd nm.data.toList lk.data.toList hx hl hk)  (hret:RetAll wa a bs s Q) (hdone:DoneAll wa W1 wr bs a s vo Q) (hnext:NextAll wa W1 bs a N c p Q .normal) (hcont:NextAll wa W1 bs a N c p Q (.exit 1)):Code.wp Tryz.prog (tailC 6) Q ⟨#[.slice p N c,u1,u2,.pointer (some ⟨wa.heap.size,0,none⟩),vo,vg,.slice q qn qd,.string nm,.string lk,.bool hx,.bool hl,.bool hk,.int .i64 (a:Int),u13,u14,u15,u16,u17,u18,u19,u20,u21,u22,u23,u24,u25,u26,u27,u28,u29,u30,u31,u32,u33,u34,u35,u36,u37,u38,u39,u40,u41,u42,u43,u44,u45,u46,u47,u48,u49,u50,u51,u52,u53,u54,u55,u56,u57,u58,u59,u60,u61,u62,u63,u64,u65,u66,u67,u68,u69,u70,u71,u72,u73,u74,u75,u76,u77,u78,u79,u80,u81,u82,u83,u84,u85,u86,u87,u88,u89,u90,u91,u92,u93,u94,u95,u96,u97,u98,u99,u100,u101,u102,u103,u104,u105,u106,u107,u108,u109,u110,u111,u112,u113,u114,u115,u116,u117,u118,u119,u120,u121,u122,u123,u124,u125,u126,u127,u128,u129,u130,u131,u132,u133,u134,u135,u136,u137,u138,u139,u140,u141,u142,u143,u144,u145,u146,u147,u148,u149,u150,u151,u152,u153,u154,u155,u156,u157,u158,u159,u160,u161,u162,u163,u164,u165,u166,u167,u168,u169,u170,u171,u172,u173,u174,u175,u176,u177,u178,u179,u180,u181,u182,u183,u184,u185,u186,u187,u188,u189,u190,u191,u192,u193,u194,u195,u196,u197,u198,u199,u200,u201,u202,u203,u204,u205,u206,u207,u208,u209,u210,u211,u212,u213,u214,u215,u216,u217,u218,u219,u220,u221,u222,u223,u224,u225,u226,u227,u228,u229,u230,u231,u232,u233,u234,u235,u236,u237,u238,u239,u240,u241,u242,u243,u244,u245,u246,u247,u248,u249,u250,u251,u252,u253,u254,u255,u256,u257,u258,u259,u260,u261,u262,u263,u264,u265,u266,u267,u268,u269,u270,u271,u272,u273,u274,u275,u276,u277,u278,u279,u280,u281,u282,u283,u284,u285,u286,u287,u288,u289,u290,u291,u292,u293,u294,u295,u296,u297],[]⟩ wr:=by
 have HC:=Lib.hid C;have HRET:=Lib.hid hret;have HNX:=Lib.hid hnext;have HCT:=Lib.hid hcont;have HDN:=Lib.hid hdone;clear C hret hnext hcont hdone;have hN:=HC.out.hN;have hNc:=HC.out.hc;have haN:=HC.out.ha
 conv => arg 2;whnf
 refine wp_seq_k (fun K hK => ?_)
 have HK:=Lib.hid hK;clear hK
 by_cases h512:N - a < 512
 ·have h512z:(N:Int) - (a:Int) < 512:=by omega
  have E:Hid (stepD (bs.drop a) s=.fault 2):=Lib.hid (step_less (by rw [List.length_drop,HC.out.len];exact h512) s)
  obtain ⟨r0,r1,f0,f1⟩:=box_at HC.out.box (Below.refl wr.heap.size wr)
  go_wp2
  exact ret_at (HRET.out 2 E.out) HC.out.box HC.out.b1 HC.out.rd.bel (Below.refl wr.heap.size wr) _ rfl rfl
 ·have h512z:¬ (N:Int) - (a:Int) < 512:=by omega
  obtain ⟨b0,o0,rfl,_⟩:=HC.out.bat.cell (k:=0) (by omega)
  go_wp2
  exact HK.out _ _ (mx8 HC.out (by omega) _ rfl HRET.out HDN.out HNX.out HCT.out)
end Go.Proofs.YtdjedimjhogdoaaGreatDoor.Mem
end
section
namespace Go.Proofs.YtdjedimjhogdoaaGreatDoor.Mem
open Go.ChangeShapes Go.WideShapes Go.ChangeAt Go.RowKit Base Byt Txt Bk Hp Head Num Path Block Attr Rec Go.Lib
set_option linter.unusedVariables false
set_option linter.unusedSectionVars false
set_option maxRecDepth 1000000
def WI (wa W1:World) (bs:List UInt8) (N c:Nat) (p:Option Addr) (act:Act) (w:World):Prop:=
 ∃ (a:Nat) (s:RS) (vo:Value) (xs:List MP) (vg:Value) (q:Option Addr) (qn qd:Nat) (nm lk:ByteArray) (hx hl hk:Bool),RRd W1 w bs a s vo xs vg q qn qd nm.data.toList lk.data.toList hx hl hk∧a≤N∧act.defers=[]∧act.tmps.size=298 ∧
   act.tmps.getD 0 undef=.slice p N c∧act.tmps.getD 3 undef=.pointer (some ⟨wa.heap.size,0,none⟩)∧act.tmps.getD 4 undef=vo∧act.tmps.getD 5 undef=vg∧act.tmps.getD 6 undef=.slice q qn qd ∧
   act.tmps.getD 7 undef=.string nm∧act.tmps.getD 8 undef=.string lk∧act.tmps.getD 9 undef=.bool hx∧act.tmps.getD 10 undef=.bool hl∧act.tmps.getD 11 undef=.bool hk∧act.tmps.getD 12 undef=.int .i64 (a:Int)
def Wmu (N:Nat) (act:Act) (_:World):Nat:=N - (RowKit.intOf (act.tmps.getD 12 undef)).toNat
theorem lit_of (T:Array Value) (h:T.size=298):T=#[T.getD 0 undef,T.getD 1 undef,T.getD 2 undef,T.getD 3 undef,T.getD 4 undef,T.getD 5 undef,T.getD 6 undef,T.getD 7 undef,T.getD 8 undef,T.getD 9 undef,T.getD 10 undef,T.getD 11 undef,T.getD 12 undef,T.getD 13 undef,T.getD 14 undef,T.getD 15 undef,T.getD 16 undef,T.getD 17 undef,T.getD 18 undef,T.getD 19 undef,T.getD 20 undef,T.getD 21 undef,T.getD 22 undef,T.getD 23 undef,T.getD 24 undef,T.getD 25 undef,T.getD 26 undef,T.getD 27 undef,T.getD 28 undef,T.getD 29 undef,T.getD 30 undef,T.getD 31 undef,T.getD 32 undef,T.getD 33 undef,T.getD 34 undef,T.getD 35 undef,T.getD 36 undef,T.getD 37 undef,T.getD 38 undef,T.getD 39 undef,T.getD 40 undef,T.getD 41 undef,T.getD 42 undef,T.getD 43 undef,T.getD 44 undef,T.getD 45 undef,T.getD 46 undef,T.getD 47 undef,T.getD 48 undef,T.getD 49 undef,T.getD 50 undef,T.getD 51 undef,T.getD 52 undef,T.getD 53 undef,T.getD 54 undef,T.getD 55 undef,T.getD 56 undef,T.getD 57 undef,T.getD 58 undef,T.getD 59 undef,T.getD 60 undef,T.getD 61 undef,T.getD 62 undef,T.getD 63 undef,T.getD 64 undef,T.getD 65 undef,T.getD 66 undef,T.getD 67 undef,T.getD 68 undef,T.getD 69 undef,T.getD 70 undef,T.getD 71 undef,T.getD 72 undef,T.getD 73 undef,T.getD 74 undef,T.getD 75 undef,T.getD 76 undef,T.getD 77 undef,T.getD 78 undef,T.getD 79 undef,T.getD 80 undef,T.getD 81 undef,T.getD 82 undef,T.getD 83 undef,T.getD 84 undef,T.getD 85 undef,T.getD 86 undef,T.getD 87 undef,T.getD 88 undef,T.getD 89 undef,T.getD 90 undef,T.getD 91 undef,T.getD 92 undef,T.getD 93 undef,T.getD 94 undef,T.getD 95 undef,T.getD 96 undef,T.getD 97 undef,T.getD 98 undef,T.getD 99 undef,T.getD 100 undef,T.getD 101 undef,T.getD 102 undef,T.getD 103 undef,T.getD 104 undef,T.getD 105 undef,T.getD 106 undef,T.getD 107 undef,T.getD 108 undef,T.getD 109 undef,T.getD 110 undef,T.getD 111 undef,T.getD 112 undef,T.getD 113 undef,T.getD 114 undef,T.getD 115 undef,T.getD 116 undef,T.getD 117 undef,T.getD 118 undef,T.getD 119 undef,T.getD 120 undef,T.getD 121 undef,T.getD 122 undef,T.getD 123 undef,T.getD 124 undef,T.getD 125 undef,T.getD 126 undef,T.getD 127 undef,T.getD 128 undef,T.getD 129 undef,T.getD 130 undef,T.getD 131 undef,T.getD 132 undef,T.getD 133 undef,T.getD 134 undef,T.getD 135 undef,T.getD 136 undef,T.getD 137 undef,T.getD 138 undef,T.getD 139 undef,T.getD 140 undef,T.getD 141 undef,T.getD 142 undef,T.getD 143 undef,T.getD 144 undef,T.getD 145 undef,T.getD 146 undef,T.getD 147 undef,T.getD 148 undef,T.getD 149 undef,T.getD 150 undef,T.getD 151 undef,T.getD 152 undef,T.getD 153 undef,T.getD 154 undef,T.getD 155 undef,T.getD 156 undef,T.getD 157 undef,T.getD 158 undef,T.getD 159 undef,T.getD 160 undef,T.getD 161 undef,T.getD 162 undef,T.getD 163 undef,T.getD 164 undef,T.getD 165 undef,T.getD 166 undef,T.getD 167 undef,T.getD 168 undef,T.getD 169 undef,T.getD 170 undef,T.getD 171 undef,T.getD 172 undef,T.getD 173 undef,T.getD 174 undef,T.getD 175 undef,T.getD 176 undef,T.getD 177 undef,T.getD 178 undef,T.getD 179 undef,T.getD 180 undef,T.getD 181 undef,T.getD 182 undef,T.getD 183 undef,T.getD 184 undef,T.getD 185 undef,T.getD 186 undef,T.getD 187 undef,T.getD 188 undef,T.getD 189 undef,T.getD 190 undef,T.getD 191 undef,T.getD 192 undef,T.getD 193 undef,T.getD 194 undef,T.getD 195 undef,T.getD 196 undef,T.getD 197 undef,T.getD 198 undef,T.getD 199 undef,T.getD 200 undef,T.getD 201 undef,T.getD 202 undef,T.getD 203 undef,T.getD 204 undef,T.getD 205 undef,T.getD 206 undef,T.getD 207 undef,T.getD 208 undef,T.getD 209 undef,T.getD 210 undef,T.getD 211 undef,T.getD 212 undef,T.getD 213 undef,T.getD 214 undef,T.getD 215 undef,T.getD 216 undef,T.getD 217 undef,T.getD 218 undef,T.getD 219 undef,T.getD 220 undef,T.getD 221 undef,T.getD 222 undef,T.getD 223 undef,T.getD 224 undef,T.getD 225 undef,T.getD 226 undef,T.getD 227 undef,T.getD 228 undef,T.getD 229 undef,T.getD 230 undef,T.getD 231 undef,T.getD 232 undef,T.getD 233 undef,T.getD 234 undef,T.getD 235 undef,T.getD 236 undef,T.getD 237 undef,T.getD 238 undef,T.getD 239 undef,T.getD 240 undef,T.getD 241 undef,T.getD 242 undef,T.getD 243 undef,T.getD 244 undef,T.getD 245 undef,T.getD 246 undef,T.getD 247 undef,T.getD 248 undef,T.getD 249 undef,T.getD 250 undef,T.getD 251 undef,T.getD 252 undef,T.getD 253 undef,T.getD 254 undef,T.getD 255 undef,T.getD 256 undef,T.getD 257 undef,T.getD 258 undef,T.getD 259 undef,T.getD 260 undef,T.getD 261 undef,T.getD 262 undef,T.getD 263 undef,T.getD 264 undef,T.getD 265 undef,T.getD 266 undef,T.getD 267 undef,T.getD 268 undef,T.getD 269 undef,T.getD 270 undef,T.getD 271 undef,T.getD 272 undef,T.getD 273 undef,T.getD 274 undef,T.getD 275 undef,T.getD 276 undef,T.getD 277 undef,T.getD 278 undef,T.getD 279 undef,T.getD 280 undef,T.getD 281 undef,T.getD 282 undef,T.getD 283 undef,T.getD 284 undef,T.getD 285 undef,T.getD 286 undef,T.getD 287 undef,T.getD 288 undef,T.getD 289 undef,T.getD 290 undef,T.getD 291 undef,T.getD 292 undef,T.getD 293 undef,T.getD 294 undef,T.getD 295 undef,T.getD 296 undef,T.getD 297 undef]:=by
 have e:T=((List.range 298).map (fun i => T.getD i undef)).toArray:=by
  refine Array.ext (by simp [h]) (fun i h1 h2 => ?_)
  simp [h1]
 exact e.trans rfl
def RetQ (wa:World) (bs:List UInt8) (Q:Exit → Act → World → Prop):Prop:=
 ∀ (T:Array Value) (w':World) (v:Value) (er at_:Int),T.getD 3 undef=.pointer (some ⟨wa.heap.size,0,none⟩) → T.getD 2 undef=v → Blk w' wa.heap.size 28 #[.int .i64 er,.int .i64 at_] → ReadD wa bs (.returned (.tuple #[v,.agg #[.int .i64 er,.int .i64 at_]])) w' → Q .ret ⟨T,[]⟩ w'
structure ME (wa W1:World) (bs:List UInt8) (N c:Nat) (p:Option Addr):Prop where
 b1:Below wa.heap.size wa W1
 box:Blk W1 wa.heap.size 28 #[.int .i64 0,.int .i64 0]
 bat:BAt W1 p N bs
 need:Need W1
 len:bs.length=N
 hN:N≤1000000000
 hc:N≤c
 hcm:c≤140737488351232
theorem rround {wa W1 w:World} {bs:List UInt8} {N c:Nat} {p:Option Addr} {act:Act} {Q0:Exit → Act → World → Prop} (E:ME wa W1 bs N c p) (hq:RetQ wa bs Q0) (hI:WI wa W1 bs N c p act w) :
 Code.wp Tryz.prog (Code.block 1 (tailC 6)) (Exit.then (fun a' w' => WI wa W1 bs N c p a' w'∧Wmu N a' w' < Wmu N act w) Q0) act w:=by
 obtain ⟨a,s,vo,xs,vg,q,qn,qd,nm,lk,hx,hl,hk,hR,ha,hd,hs,t0,t3,t4,t5,t6,t7,t8,t9,t10,t11,t12⟩:=hI;obtain ⟨T,D⟩:=act;simp only at hd hs t0 t3 t4 t5 t6 t7 t8 t9 t10 t11 t12;subst hd
 have hmu:Wmu N ⟨T,[]⟩ w=N - a:=by
  unfold Wmu;simp only [t12,RowKit.intOf];omega
 rw [hmu];clear hmu;refine wp_block ?_
 have hl':=lit_of T hs;rw [t0,t3,t4,t5,t6,t7,t8,t9,t10,t11,t12] at hl';rw [hl']
 have nx:∀ ex:Exit,(∀ (a':Act) (w':World),(WI wa W1 bs N c p a' w'∧Wmu N a' w' < N - a) → Exit.inBlock 1 (Exit.then (fun a' w' => WI wa W1 bs N c p a' w'∧Wmu N a' w' < N - a) Q0) ex a' w') →
  NextAll wa W1 bs a N c p (Exit.inBlock 1 (Exit.then (fun a' w' => WI wa W1 bs N c p a' w'∧Wmu N a' w' < N - a) Q0)) ex:=by
  intro ex hex T' w' tu s' vo' xs' vg' q' qn' qd' nm' lk' hx' hl' hk' hR' h1 h2 hs' g0 g3 g4 g5 g6 g7 g8 g9 g10 g11 g12;refine hex _ _ ⟨⟨tu,s',vo',xs',vg',q',qn',qd',nm',lk',hx',hl',hk',hR',h2,rfl,hs',g0,g3,g4,g5,g6,g7,g8,g9,g10,g11,g12⟩,?_⟩;unfold Wmu;simp only [g12,RowKit.intOf];omega
 refine mx6 (wa:=wa) (W1:=W1) (s:=s) (xs:=xs) ⟨E.b1,hR,E.box.below hR.bel E.box.lt,E.bat.below hR.bel,E.need.below hR.bel,E.len,E.hN,E.hc,E.hcm,ha⟩ ?_ ?_ (nx .normal fun a' w' h => h) (nx (.exit 1) fun a' w' h => by
  simp only [Exit.inBlock,if_true]
  exact h)
 ·intro er hst T' w' g3 g2 hb hbel
  exact hq T' w' _ er a g3 g2 hb (hR.fault hst hbel)
 ·intro hst T' w' g3 g2 hb hkk hbel
  exact hq T' w' _ 0 0 g3 g2 hb (hR.done hst E.box.lt (E.box.below hR.bel E.box.lt) hkk hbel)
theorem rloop {wa W1:World} {bs:List UInt8} {N c:Nat} {p:Option Addr} {act:Act} {Q0:Exit → Act → World → Prop} (E:ME wa W1 bs N c p) (hq:RetQ wa bs Q0) (hI:WI wa W1 bs N c p act W1) :
 Code.wp Tryz.prog (Code.loop (Code.block 1 (tailC 6))) Q0 act W1:=
 wp_loop (WI wa W1 bs N c p) (Wmu N) hI (fun _ _ h => rround E hq h)
theorem ret_read {fn:Func} (hf:fn.results=#[.tmp 2,.cell 3 28]) (tmps:Array Value) (w:World) (g:Nat) (v:Value) (ht:tmps.getD 3 undef=.pointer (some ⟨g,0,none⟩)) (hv:tmps.getD 2 undef=v)
 (a b:Int) (hb:Blk w g 28 #[.int .i64 a,.int .i64 b]):(results fn tmps).run Tryz.prog w=.ok (.tuple #[v,.agg #[.int .i64 a,.int .i64 b]]) w:=by
 have c0:=hb.cell 0;have c1:=hb.cell 1;simp only [List.getElem?_toArray,List.getElem?_cons_zero,List.getElem?_cons_succ] at c0 c1;have hl:(loadVar 28 ⟨g,0,none⟩).run Tryz.prog w=.ok (.agg #[.int .i64 a,.int .i64 b]) w:=by go_simp
 have ht':tmps[3]?.getD undef=.pointer (some ⟨g,0,none⟩):=by simpa using ht
 have hv':tmps[2]?.getD undef=v:=by simpa using hv
 simp only [results,hf];simp [Result.andThen,ht',hv',asAddr,hl]
set_option maxHeartbeats 8000000 in
theorem rread_any (p:Option Addr) (N c:Nat) (bs:List UInt8) (w:World) (hb:BAt w p N bs) (hl:bs.length=N) (hn:N≤1000000000) (hc:N≤c) (hcm:c≤140737488351232) (hN:Need w) :
 Calls Tryz.prog 13 #[.slice p N c] w (ReadD w bs):=by
 obtain ⟨W1,hW1⟩:∃ W1,w.alloc (.cells #[.int .i64 0,.int .i64 0] 28)=W1:=⟨_,rfl⟩;have hB1:Below w.heap.size w W1:=by rw [← hW1];exact (Below.refl _ w).alloc (Nat.le_refl _) _
 have hX1:Blk W1 w.heap.size 28 #[.int .i64 0,.int .i64 0]:=by rw [← hW1];exact Blk.new w _ _
 have HE:Hid (ME w W1 bs N c p):=Lib.hid ⟨hB1,hX1,hb.below hB1,hN.below hB1,hl,hn,hc,hcm⟩;clear hb hl hn hc hcm hN hB1 hX1
 go_enter Tryz.func13,Tryz.ntmps13
 go_upto_region 1 with fail
 clear hW1
 go_wp2_with fail
 refine rloop HE.out ?_ ?_
 ·intro T w' v er at_ g3 g2 hbx hR
  exact bodyPost_ret (ret_read rfl T w' w.heap.size v g3 g2 er at_ hbx) rfl hR
 ·exact ⟨0,startS,_,[],_,none,0,0,⟨#[]⟩,⟨#[]⟩,false,false,false,rrd_start W1 bs,Nat.zero_le _,rfl,rfl,rfl,rfl,rfl,rfl,rfl,rfl,rfl,rfl,rfl,rfl,rfl⟩
end Go.Proofs.YtdjedimjhogdoaaGreatDoor.Mem
end
section
namespace Go.Proofs.YtdjedimjhogdoaaGreatDoor.Mem
open Go.ChangeShapes Go.WideShapes Go.ChangeAt Go.RowKit Go.Shelf Base Byt Txt Bk Hp Head Go.Proofs.YtdjedimjhogdoaaGreatDoor.Mp Block Go.Lib
set_option linter.unusedVariables false
set_option maxRecDepth 100000
theorem wpAny_ops {P:Program} {ops ops':Array Oper} {Q:Exit → Act → World → Prop} {a:Act} {w:World} (h:ops=ops') (hw:wpAny P .any ops' Q ops'.size (Array.replicate ops'.size false) a w):wpAny P .any ops Q ops.size (Array.replicate ops.size false) a w:=h ▸ hw
theorem wp_append_bytes {w:World} {o:Oper} {b:Act} {Kk:Act → World → Prop} {Q:Exit → Act → World → Prop} (x y:Operand)
 (ho:o.op=.call { callee:=.builtin .append,args:=#[x,y],argTypes:=#[22,22] })
 (B:Nat) (v:Value) (xs:List UInt8) (hs:b.eval x=v) (hown:OwnB w B v xs.length xs)
 (p:Option Addr) (m c:Nat) (bs:List UInt8) (hx:b.eval y=.slice p m c) (hb:BAt w p m bs) (hl:bs.length=m) (hsum:xs.length+m≤140737488351232) (hbase:B≤w.heap.size)
 (h:∀ v' w',OwnB w' B v' (xs++bs).length (xs++bs) → w.grownBy w' v.ownBlock → NewOr w v v' → Kk (b.put o.dst v') w'):Oper.wp Tryz.prog o b w Kk Q:=by
 obtain ⟨i0,hi,hz0,hz1,hz2⟩:=info_parts infoU8
 have key:∃ v' w',(Builtin.append_ #[22,22] o.type #[v,.slice p m c]).run Tryz.prog w=.ok v' w'∧OwnB w' B v' (xs++bs).length (xs++bs)∧w.grownBy w' v.ownBlock∧NewOr w v v':=by
  rcases p with _ | ad
  ·have hm:m=0:=by
    rcases Nat.eq_zero_or_pos m with h0 | h0
    ·exact h0
    ·obtain ⟨_,_,he,_⟩:=hb h0
     cases he
   subst hm;obtain rfl:bs=[]:=List.eq_nil_of_length_eq_zero hl;refine ⟨v,w,?_,by simpa using hown,World.grownBy.refl w _,fun k hk => Or.inl hk⟩
   rcases hown.2 with ⟨rfl,h0⟩ | ⟨g,cap,cur,rfl,_,_,hnc,_⟩
   ·simp [Builtin.append_,run_underlying Tryz.underlying22,sizeOf,typeInfo,hi,Builtin.lenOf,Builtin.firstCells]
   ·simp [Builtin.append_,run_underlying Tryz.underlying22,sizeOf,typeInfo,hi,Builtin.lenOf,Builtin.firstCells,hnc,storeCells]
  ·obtain ⟨v',w',hr,h2,h3,h4⟩:=Mem.run_append_newS (P:=Tryz.prog) (w:=w) B 22 o.type 5 i0 (.int .u8 0) 1 1 Tryz.underlying22 hi hz0 hz1 hz2 rfl (by decide) v xs.length ((nums xs).map (Value.int .u8)) hown ad m c ((nums bs).map (Value.int .u8)) (by rw [List.length_map,nums_length,hl,Nat.mul_one]) (by
    intro j u hj
    have hjl:j < m:=by
     have:=(List.getElem?_eq_some_iff.1 hj).1;rw [List.length_map,nums_length,hl] at this;exact this
    obtain ⟨b',off,he,hc⟩:=hb (by omega)
    cases he
    rw [nums_getElem bs j (by omega)] at hj
    cases hj
    rw [WideShapes.add_plain]
    exact hc j hjl) (ints_oneCell .u8 _) (by unfold maxLen;omega) (by omega) hbase
   refine ⟨v',w',hr,?_,h3,h4⟩;unfold OwnB;rw [List.length_append,hl];have e:(nums (xs++bs)).map (Value.int .u8)=(nums xs).map (Value.int .u8)++(nums bs).map (Value.int .u8):=by unfold nums;rw [List.map_append,List.map_append]
   rw [e];exact h2
 obtain ⟨v',w',hr,h2,h3,h4⟩:=key;have hr2:(execOp b.eval o).run Tryz.prog w=.ok (.value v') w':=by simp [execOp,ho,resolve,invoke,builtin,hs,hx,hr,Result.andThen]
 unfold Oper.wp;rw [hr2,Oper.upon_value];exact h v' w' h2 h3 h4
noncomputable def put24Ops:Array Oper:=regionAt Tryz.f44 24
structure put24G where
 v1:Value
 vp:Value
 v2:Value
def put24V (bm gy:Nat) (v0:Value) (p:Option Addr) (bl c:Nat) (γ:put24G):Nat → Value
 | 0 => v0 | 1 => .slice (some ⟨gy,0,none⟩) 512 512 | 2 => γ.v1 | 3 => .pointer (some ⟨bm,7,none⟩) | 4 => .slice p bl c | 5 => γ.vp | 6 => γ.v2 | 7 => γ.v2 | _ => undef
theorem put24_size:put24Ops.size=8:=rfl
theorem put24_apart:apartG put24Ops 132=true:=by kernel_rfl
theorem put24_dst0:dstAt put24Ops 0=some 125:=rfl
theorem put24_op0:∃ o,put24Ops[0]? = some o∧o.op=.move (.tmp 8)∧o.dst=some 125:=⟨_,rfl,rfl,rfl⟩
theorem put24_dst1:dstAt put24Ops 1=some 126:=rfl
theorem put24_op1:∃ o,put24Ops[1]? = some o∧o.op=.move (.tmp 11)∧o.dst=some 126:=⟨_,rfl,rfl,rfl⟩
theorem put24_dst2:dstAt put24Ops 2=some 127:=rfl
theorem put24_op2:∃ o,put24Ops[2]? = some o∧o.op=.call { callee:=.builtin .append,args:=#[.tmp 125,.tmp 126],argTypes:=#[22,22] }∧o.dst=some 127:=⟨_,rfl,rfl,rfl⟩
theorem put24_dst3:dstAt put24Ops 3=some 128:=rfl
theorem put24_op3:∃ o,put24Ops[3]? = some o∧o.op=.fieldAddr 37 (.tmp 1) 4∧o.dst=some 128:=⟨_,rfl,rfl,rfl⟩
theorem put24_dst4:dstAt put24Ops 4=some 129:=rfl
theorem put24_op4:∃ o,put24Ops[4]? = some o∧o.op=.load 22 (.tmp 128)∧o.dst=some 129:=⟨_,rfl,rfl,rfl⟩
theorem put24_dst5:dstAt put24Ops 5=some 130:=rfl
theorem put24_op5:∃ o,put24Ops[5]? = some o∧o.op=.call { callee:=.value (.func 65),args:=#[.tmp 129],argTypes:=#[22] }∧o.dst=some 130:=⟨_,rfl,rfl,rfl⟩
theorem put24_dst6:dstAt put24Ops 6=some 131:=rfl
theorem put24_op6:∃ o,put24Ops[6]? = some o∧o.op=.call { callee:=.builtin .append,args:=#[.tmp 127,.tmp 130],argTypes:=#[22,22] }∧o.dst=some 131:=⟨_,rfl,rfl,rfl⟩
theorem put24_dst7:dstAt put24Ops 7=some 2:=rfl
theorem put24_op7:∃ o,put24Ops[7]? = some o∧o.op=.assign (.tmp 131)∧o.dst=some 2:=⟨_,rfl,rfl,rfl⟩
theorem put24V_v1 (bm gy:Nat) (v0:Value) (p:Option Addr) (bl c:Nat) (γ:put24G) (x:Value) {i:Nat} (h:i≠2):put24V bm gy v0 p bl c { γ with v1:=x } i=put24V bm gy v0 p bl c γ i:=by
 unfold put24V
 split<;>first | rfl | (exfalso;omega)
theorem put24V_vp (bm gy:Nat) (v0:Value) (p:Option Addr) (bl c:Nat) (γ:put24G) (x:Value) {i:Nat} (h:i≠5):put24V bm gy v0 p bl c { γ with vp:=x } i=put24V bm gy v0 p bl c γ i:=by
 unfold put24V
 split<;>first | rfl | (exfalso;omega)
theorem put24V_v2 (bm gy:Nat) (v0:Value) (p:Option Addr) (bl c:Nat) (γ:put24G) (x:Value) {i:Nat} (h:i≠6∧i≠7):put24V bm gy v0 p bl c { γ with v2:=x } i=put24V bm gy v0 p bl c γ i:=by
 unfold put24V
 split<;>first | rfl | (exfalso;omega)
structure W24 (w:World) (B bm:Nat) (M:Array Value) (v0:Value) (X Y P:List UInt8) (w1:World) (γ:put24G) (listed:Array Bool) (w':World):Prop where
 bel:Below w.heap.size w w'
 le:w1.heap.size≤w'.heap.size
 mem:Blk w' bm 37 M
 ysrc:listed.getD 2 false=false → ∀ b o,BAt w1 (some ⟨b,o,none⟩) 512 Y → (∀ k,v0.ownBlock=some k → k≠b) → BAt w' (some ⟨b,o,none⟩) 512 Y
 o0:listed.getD 2 false=false → OwnB w' B v0 X.length X
 o1:listed.getD 2 false=true → listed.getD 6 false=false → OwnB w' B γ.v1 (X++Y).length (X++Y)
 pd:listed.getD 5 false=true → listed.getD 6 false=false → OwnB w' w1.heap.size γ.vp P.length P
 fin:listed.getD 6 false=true → OwnB w' B γ.v2 ((X++Y)++P).length ((X++Y)++P)
 c6:listed.getD 6 false=true → listed.getD 2 false=true∧listed.getD 5 false=true
theorem W24.keep {w w1 w':World} {B bm:Nat} {M:Array Value} {v0:Value} {X Y P:List UInt8} {γ:put24G} {listed:Array Bool} (hW:W24 w B bm M v0 X Y P w1 γ listed w') {j:Nat} (hlt:j < listed.size) (hj:j≠2∧j≠5∧j≠6):W24 w B bm M v0 X Y P w1 γ (listed.setIfInBounds j true) w':=by
 have e2:(listed.setIfInBounds j true).getD 2 false=listed.getD 2 false:=by rw [listed_get hlt,if_neg (by omega)]
 have e5:(listed.setIfInBounds j true).getD 5 false=listed.getD 5 false:=by rw [listed_get hlt,if_neg (by omega)]
 have e6:(listed.setIfInBounds j true).getD 6 false=listed.getD 6 false:=by rw [listed_get hlt,if_neg (by omega)]
 exact ⟨hW.bel,hW.le,hW.mem,by rw [e2];exact hW.ysrc,by rw [e2];exact hW.o0,by rw [e2,e6];exact hW.o1,by rw [e5,e6];exact hW.pd,by rw [e6];exact hW.fin,by rw [e2,e5,e6];exact hW.c6⟩
set_option maxHeartbeats 4000000 in
theorem put24_region {Q':Exit → Act → World → Prop} {a0:Act} {w w1:World} (B bm gy:Nat) (M:Array Value) (v0:Value) (X Y body:List UInt8) (p:Option Addr) (bl c:Nat)
 (hsz:132≤a0.tmps.size) (h8:a0.eval (.tmp 8)=v0) (h11:a0.eval (.tmp 11)=.slice (some ⟨gy,0,none⟩) 512 512) (h1:a0.eval (.tmp 1)=.pointer (some ⟨bm,0,none⟩))
 (hb1:Below w.heap.size w w1) (hmem:Blk w1 bm 37 M) (hM:M[7]? = some (.slice p bl c)) (hbm:w.heap.size≤bm) (hv0:OwnB w1 B v0 X.length X) (hB:bm < B) (hBw:B≤w1.heap.size) (hwB:w.heap.size≤B) (hy:BAt w1 (some ⟨gy,0,none⟩) 512 Y) (hyl:Y.length=512) (hyb:∀ k,v0.ownBlock=some k → k≠gy)
 (hbody:BAt w p bl body) (hbl:body.length=bl) (hbl2:bl≤1048576) (hX:X.length≤10000000)
 (hQ:∀ (γ:put24G) w',OwnB w' B γ.v2 ((X++Y)++padB body).length ((X++Y)++padB body) → Below w.heap.size w w' → Q' .normal ((((((((a0.put (some 125) (v0)).put (some 126) (.slice (some ⟨gy,0,none⟩) 512 512)).put (some 127) (γ.v1)).put (some 128) (.pointer (some ⟨bm,7,none⟩))).put (some 129) (.slice p bl c)).put (some 130) (γ.vp)).put (some 131) (γ.v2)).put (some 2) (γ.v2)) w') :
 wpAny Tryz.prog .any put24Ops Q' put24Ops.size (Array.replicate put24Ops.size false) a0 w1.drew:=by
 have no:∀ j,(Array.replicate put24Ops.size false).getD j false=false:=fun j => by
  rw [Array.getD_eq_getD_getElem?,Array.getElem?_replicate]
  split<;>rfl
 have hpl:=padB_length body;have hpg:=(blocks_ge body.length).2;obtain ⟨P,hP⟩:∃ P,padB body=P:=⟨_,rfl⟩;rw [hP] at hQ hpl;refine wpAny_ghost (Γ:=put24G) (put24V bm gy v0 p bl c) { v1:=undef,vp:=undef,v2:=undef } a0 (fun γ listed w' => W24 w B bm M v0 X Y P w1 γ listed w'∧(listed.getD 7 false=true → listed.getD 6 false=true)) 132 put24_apart hsz ?_ ?_ ?_
 ·intro γ listed a w' j o hRI ho hun hdep
  have hlt:=lt_of_unlisted hun;have hW:=hRI.wd.1
  have hj:j < 8:=by
   have:=(Array.getElem?_eq_some_iff.1 ho).1
   rwa [put24_size] at this
  have same:∀ {j':Nat} {o':Oper},put24Ops[j']? = some o' → j=j' → o'=o:=fun {j' o'} h' e => by subst e;exact Option.some.inj (h'.symm.trans ho)
  have hlf:=getD_flip hun;have hne:∀ i,listed.getD i false=true → i≠j:=fun i hi e => by rw [e,hlf] at hi;cases hi
  rcases (show j=0 ∨ j=1 ∨ j=2 ∨ j=3 ∨ j=4 ∨ j=5 ∨ j=6 ∨ j=7 by omega) with rfl | rfl | rfl | rfl | rfl | rfl | rfl | rfl
  ·obtain ⟨o',ho',hop,hdst⟩:=put24_op0
   obtain rfl:=same ho' rfl;have e0:a.eval (.tmp 8)=v0:=(hRI.old (t:=8) (by kernel_rfl)).trans h8
   exact wp_move _ _ (Or.inl hop) e0 ⟨γ,fun _ _ => rfl,rfl,hW.keep hlt (by decide),(fun hx => by rw [listed_get hlt,if_neg (by decide)] at hx;rw [listed_get hlt];split;rfl;exact hRI.wd.2 hx)⟩
  ·obtain ⟨o',ho',hop,hdst⟩:=put24_op1
   obtain rfl:=same ho' rfl;have e0:a.eval (.tmp 11)=.slice (some ⟨gy,0,none⟩) 512 512:=(hRI.old (t:=11) (by kernel_rfl)).trans h11
   exact wp_move _ _ (Or.inl hop) e0 ⟨γ,fun _ _ => rfl,rfl,hW.keep hlt (by decide),(fun hx => by rw [listed_get hlt,if_neg (by decide)] at hx;rw [listed_get hlt];split;rfl;exact hRI.wd.2 hx)⟩
  ·obtain ⟨o',ho',hop,hdst⟩:=put24_op2
   obtain rfl:=same ho' rfl;have x0:a.eval (.tmp 125)=v0:=(hRI.get ho hdep (i:=0) (d:=125) (by kernel_rfl) rfl)
   have x1:a.eval (.tmp 126)=.slice (some ⟨gy,0,none⟩) 512 512:=(hRI.get ho hdep (i:=1) (d:=126) (by kernel_rfl) rfl)
   have e2:(listed.setIfInBounds 2 true).getD 2 false=true:=by rw [listed_get hlt,if_pos rfl]
   have e5:(listed.setIfInBounds 2 true).getD 5 false=listed.getD 5 false:=by rw [listed_get hlt,if_neg (by decide)]
   have e6:(listed.setIfInBounds 2 true).getD 6 false=listed.getD 6 false:=by rw [listed_get hlt,if_neg (by decide)]
   have hy':=hW.ysrc hlf gy 0 hy hyb
   have n6:listed.getD 6 false=false:=by
    cases hx:listed.getD 6 false with
    | false => rfl
    | true => have:=(hW.c6 hx).1;rw [hlf] at this;cases this
   refine wp_append_bytes _ _ hop B v0 X x0 (hW.o0 hlf) (some ⟨gy,0,none⟩) 512 512 Y x1 hy' hyl (by omega) (Nat.le_trans hBw hW.le) (fun v' w2 g1 g2 g3 => ⟨{ γ with v1:=v' },fun i hi => put24V_v1 _ _ _ _ _ _ _ _ (hne i hi),rfl,?_,fun hx => by rw [listed_get hlt,if_neg (by decide)] at hx;rw [listed_get hlt];split;rfl;exact hRI.wd.2 hx⟩)
   have hk:Kept (fun k => v0.ownBlock=some k) w' w2:=(Kept.refl _ w').grown g2 (fun k hk => .inr hk)
   refine ⟨hW.bel.trans (hk.below hW.bel.size (fun k hk => Nat.le_trans hwB (hv0.lt k hk).1)),Nat.le_trans hW.le hk.size,hW.mem.keptS hk (fun e => by have:=(hv0.lt _ e).1;omega),fun hx => (by rw [e2] at hx;cases hx),fun hx => (by rw [e2] at hx;cases hx),fun _ _ => g1,fun hx _ => ?_,fun hx => (by rw [e6,n6] at hx;cases hx),fun hx => (by rw [e6,n6] at hx;cases hx)⟩
   rw [e5] at hx;exact (hW.pd hx n6).kept hk (fun k hk e => by have h1:=((hW.pd hx n6).lt k hk).1;have h2:=(hv0.lt k e).2;omega)
  ·obtain ⟨o',ho',hop,hdst⟩:=put24_op3
   obtain rfl:=same ho' rfl;have e0:a.eval (.tmp 1)=.pointer (some ⟨bm,0,none⟩):=(hRI.old (t:=1) (by kernel_rfl)).trans h1
   refine wp_run _ ?_ ⟨γ,fun _ _ => rfl,rfl,hW.keep hlt (by decide),(fun hx => by rw [listed_get hlt,if_neg (by decide)] at hx;rw [listed_get hlt];split;rfl;exact hRI.wd.2 hx)⟩
   generalize a.eval=ev at e0 ⊢;simp [go_sem,execOp,hop,e0,put24V]
  ·obtain ⟨o',ho',hop,hdst⟩:=put24_op4
   obtain rfl:=same ho' rfl;have e0:a.eval (.tmp 128)=.pointer (some ⟨bm,7,none⟩):=(hRI.get ho hdep (i:=3) (d:=128) (by kernel_rfl) rfl)
   have q:=hW.mem.cell 7;rw [hM] at q;refine wp_run _ ?_ ⟨γ,fun _ _ => rfl,rfl,hW.keep hlt (by decide),(fun hx => by rw [listed_get hlt,if_neg (by decide)] at hx;rw [listed_get hlt];split;rfl;exact hRI.wd.2 hx)⟩
   generalize a.eval=ev at e0 ⊢;simp [go_sem,execOp,hop,e0,q,put24V]
  ·obtain ⟨o',ho',hop,hdst⟩:=put24_op5
   obtain rfl:=same ho' rfl;have x0:a.eval (.tmp 129)=.slice p bl c:=(hRI.get ho hdep (i:=4) (d:=129) (by kernel_rfl) rfl)
   have e2:(listed.setIfInBounds 5 true).getD 2 false=listed.getD 2 false:=by rw [listed_get hlt,if_neg (by decide)]
   have e5:(listed.setIfInBounds 5 true).getD 5 false=true:=by rw [listed_get hlt,if_pos rfl]
   have e6:(listed.setIfInBounds 5 true).getD 6 false=listed.getD 6 false:=by rw [listed_get hlt,if_neg (by decide)]
   have n6:listed.getD 6 false=false:=by
    cases hx:listed.getD 6 false with
    | false => rfl
    | true => have:=(hW.c6 hx).2;rw [hlf] at this;cases this
   have hcall:=rpadded_any p bl c body w' hbl (by omega) (hbody.below hW.bel)
   refine wp_callE _ _ _ hop #[.slice p bl c] (by simp [x0]) (enters_of Tryz.func65 (by kernel_rfl) rfl) (fun v w2 => OwnB w2 w'.heap.size v (padB body).length (padB body)∧Kept noneB w' w2) (hcall.mono fun e w2 he => by obtain ⟨v,rfl,g1,g2⟩:=he;exact ⟨v,rfl,g1,g2⟩) (fun v w2 hR => ⟨{ γ with vp:=v },fun i hi => put24V_vp _ _ _ _ _ _ _ _ (hne i hi),rfl,?_,fun hx => by rw [listed_get hlt,if_neg (by decide)] at hx;rw [listed_get hlt];split;rfl;exact hRI.wd.2 hx⟩)
   obtain ⟨g1,g2⟩:=hR;rw [hP] at g1;refine ⟨hW.bel.trans (g2.below hW.bel.size (fun _ h => h.elim)),Nat.le_trans hW.le g2.size,hW.mem.keptS g2 id,fun hx b o h1 h2 => ?_,fun hx => ?_,fun hx _ => ?_,fun _ _ => g1.mono hW.le,fun hx => (by rw [e6,n6] at hx;cases hx),fun hx => (by rw [e6,n6] at hx;cases hx)⟩
   ·rw [e2] at hx
    exact (hW.ysrc hx b o h1 h2).kept g2 (fun _ _ _ => id)
   ·rw [e2] at hx
    exact (hW.o0 hx).kept g2 (fun _ _ => id)
   ·rw [e2] at hx
    exact (hW.o1 hx n6).kept g2 (fun _ _ => id)
  ·obtain ⟨o',ho',hop,hdst⟩:=put24_op6
   obtain rfl:=same ho' rfl;have x0:a.eval (.tmp 127)=γ.v1:=(hRI.get ho hdep (i:=2) (d:=127) (by kernel_rfl) rfl)
   have x1:a.eval (.tmp 130)=γ.vp:=(hRI.get ho hdep (i:=5) (d:=130) (by kernel_rfl) rfl)
   have e2:(listed.setIfInBounds 6 true).getD 2 false=listed.getD 2 false:=by rw [listed_get hlt,if_neg (by decide)]
   have e5:(listed.setIfInBounds 6 true).getD 5 false=listed.getD 5 false:=by rw [listed_get hlt,if_neg (by decide)]
   have e6:(listed.setIfInBounds 6 true).getD 6 false=true:=by rw [listed_get hlt,if_pos rfl]
   have l2:listed.getD 2 false=true:=dep_listed ho hdep (by kernel_rfl)
   have l5:listed.getD 5 false=true:=dep_listed ho hdep (by kernel_rfl)
   obtain ⟨pp,pc,hvp,_,_,hpb,_,_⟩:=(hW.pd l5 hlf).slice;rw [hvp] at x1;have hlxy:(X++Y).length≤20000000:=by rw [List.length_append];omega
   have ho1:=hW.o1 l2 hlf;refine wp_append_bytes _ _ hop B γ.v1 (X++Y) x0 ho1 pp P.length pc P x1 hpb rfl (by omega) (Nat.le_trans hBw hW.le) (fun v' w2 g1 g2 g3 => ⟨{ γ with v2:=v' },fun i hi => put24V_v2 _ _ _ _ _ _ _ _ ⟨hne i hi,fun e => ?_⟩,rfl,?_,fun _ => by rw [listed_get hlt,if_pos rfl]⟩)
   ·subst e
    rw [hRI.wd.2 hi] at hlf
    cases hlf
   have hk:Kept (fun k => γ.v1.ownBlock=some k) w' w2:=(Kept.refl _ w').grown g2 (fun k hk => .inr hk)
   exact ⟨hW.bel.trans (hk.below hW.bel.size (fun k hk => Nat.le_trans hwB (ho1.lt k hk).1)),Nat.le_trans hW.le hk.size,hW.mem.keptS hk (fun e => by have:=(ho1.lt _ e).1;omega),fun hx => (by rw [e2,l2] at hx;cases hx),fun hx => (by rw [e2,l2] at hx;cases hx),fun _ hx => (by rw [e6] at hx;cases hx),fun _ hx => (by rw [e6] at hx;cases hx),fun _ => g1,fun _ => ⟨by rw [e2];exact l2,by rw [e5];exact l5⟩⟩
  ·obtain ⟨o',ho',hop,hdst⟩:=put24_op7
   obtain rfl:=same ho' rfl;have e0:a.eval (.tmp 131)=γ.v2:=(hRI.get ho hdep (i:=6) (d:=131) (by kernel_rfl) rfl)
   exact wp_move _ _ (Or.inr hop) e0 ⟨γ,fun _ _ => rfl,rfl,hW.keep hlt (by decide),(fun _ => by rw [listed_get hlt,if_neg (by decide)];exact dep_listed ho hdep (by kernel_rfl))⟩
 ·intro γ listed a w' hRI hall
  have all:∀ j,j < 8 → listed.getD j false=true:=fun j hj => hall j (by rw [put24_size];exact hj)
  have hW:=hRI.wd.1;rw [done_putAllG 132 put24_apart hsz hRI hall,put24_size];simp only [putAll,put24_dst0,put24_dst1,put24_dst2,put24_dst3,put24_dst4,put24_dst5,put24_dst6,put24_dst7,put24V];exact hQ γ w' (hW.fin (all 6 (by omega))) hW.bel
 ·exact ⟨⟨hb1.drew,Nat.le_refl _,hmem.drew,fun _ b o h1 _ => h1.below (Below.refl _ _).drew,fun _ => hv0.kept ((Kept.refl noneB w1).drew) (fun _ _ => id),fun hx => (by rw [no] at hx;cases hx),fun hx => (by rw [no] at hx;cases hx),fun hx => (by rw [no] at hx;cases hx),fun hx => (by rw [no] at hx;cases hx)⟩,fun hx => (by rw [no] at hx;cases hx)⟩
end Go.Proofs.YtdjedimjhogdoaaGreatDoor.Mem
end
section
namespace Go.Proofs.YtdjedimjhogdoaaGreatDoor.Mem
open Go.ChangeShapes Go.WideShapes Go.ChangeAt Go.RowKit Base Byt Txt Bk Hp Head Num Path Block Rec Attr Go.Proofs.YtdjedimjhogdoaaGreatDoor.Mp Go.Lib
set_option linter.unusedVariables false
set_option maxRecDepth 100000
structure PM (w:World) (M:Array Value) (wx:World) (h:HeadV):Prop where
 bel:Below w.heap.size w wx
 mem:Blk wx w.heap.size 37 M
 hd:Blk wx (w.heap.size+1) 57 (headC h)
theorem PM.below {w:World} {M:Array Value} {wx wy:World} {h:HeadV} (hm:PM w M wx h) (hb:Below wx.heap.size wx wy):PM w M wy h:=
 ⟨hm.bel.trans (hb.mono hm.bel.size),hm.mem.below hb hm.mem.lt,hm.hd.below hb hm.hd.lt⟩
theorem PM.kept {w:World} {M:Array Value} {wx wy:World} {h:HeadV} (hm:PM w M wx h) (hk:Kept noneB wx wy):PM w M wy h:=hm.below (hk.below (Nat.le_refl _) (fun _ h => h.elim))
theorem PM.set {w:World} {M:Array Value} {wx:World} {h h':HeadV} (hm:PM w M wx h) (i:Nat) (v:Value) (hb:Blk (wx.setCell ⟨w.heap.size+1,i,none⟩ v) (w.heap.size+1) 57 (headC h')):PM w M (wx.setCell ⟨w.heap.size+1,i,none⟩ v) h':=
 ⟨hm.bel.setCell (p:=⟨w.heap.size+1,i,none⟩) (Nat.le_succ _) v,hm.mem.other (by omega) v,hb⟩
theorem rcutV_is (l:List UInt8):∃ a b,Head.cutV l=.tuple #[.string a,.string b,.bool (cutR l).isSome]:=by
 unfold Head.cutV
 cases cutR l with
 | none => exact ⟨_,_,rfl⟩
 | some x => exact ⟨_,_,rfl⟩
theorem ownB_row {w:World} {g B:Nat} {bs:List UInt8} (h:RowB w g bs) (hB:B≤g) (hc:bs.length≤maxLen):OwnB w B (.slice (some ⟨g,0,none⟩) bs.length bs.length) bs.length bs:=by
 refine ⟨by simp [nums],.inr ⟨g,bs.length,(bs.map bv).toArray,rfl,hB,h,Nat.le_refl _,hc,by simp,?_⟩⟩
 rw [Nat.mul_one,List.take_of_length_le (by simp)]
 unfold nums;rw [List.map_map];rfl
theorem target_le {m:MemV} (h:GoodM m):m.target.length≤200:=by
 rcases h.kind with k | k | k | k
 ·rw [h.none (.inl k)];simp
 ·exact ((clean_ok 9 6 (by decide) (by decide) _ _).1 (h.hard k)).2.2.2.2.2
 ·have:=h.sym k
  unfold targetD at this
  split at this
  ·cases this
  ·split at this
   ·cases this
   ·omega
 ·rw [h.none (.inr k)];simp
theorem wf_i64 {n:Int} (h0:0≤n) (h1:n≤9223372036854775807):(Lit.int .i64 n).wf=true:=by
 have e1:IntKind.i64.min = -9223372036854775808:=rfl;have e2:IntKind.i64.max=9223372036854775807:=rfl;simp only [Lit.wf,Bool.and_eq_true,decide_eq_true_eq];omega
theorem headM_wf {m:MemV} (h:GoodM m):∀ i,(Lit.int .i64 (numH (headM m) i)).wf=true:=by
 have h1:=h.mode;have h2:=h.uid;have h3:=h.gid;have h4:=h.time;have h5:=h.body;intro i;unfold numH headM
 split
 ·exact wf_i64 (n:=m.mode) h1.1 (by omega)
 ·simp only;split<;>exact wf_i64 (by omega) (by omega)
 ·simp only;split<;>exact wf_i64 (by omega) (by omega)
 ·exact wf_i64 (n:=(m.body.length:Int)) (by omega) (by omega)
 ·simp only;split<;>exact wf_i64 (by omega) (by omega)
 ·exact wf_i64 (by omega) (by omega)
theorem headM_tx {m:MemV} (h:GoodM m):(headM m).name.length≤140737488351232∧(headM m).link.length≤140737488351232:=by
 have h1:=h.pathL;have h2:=target_le h;unfold headM;constructor
 ·simp only;split
  ·decide
  ·omega
 ·simp only;split
  ·decide
  ·omega
theorem paxH_wf {n:Nat} (h:n≤1048576):∀ i,(Lit.int .i64 (numH (paxH n) i)).wf=true:=by
 intro i;unfold numH paxH
 split
 ·exact wf_i64 (n:=0) (by omega) (by omega)
 ·exact wf_i64 (n:=0) (by omega) (by omega)
 ·exact wf_i64 (n:=0) (by omega) (by omega)
 ·exact wf_i64 (n:=(n:Int)) (by omega) (by omega)
 ·exact wf_i64 (n:=0) (by omega) (by omega)
 ·exact wf_i64 (by omega) (by omega)
set_option maxHeartbeats 16000000 in
theorem rput_any (m:MemV) (p:Option Addr) (c:Nat) (w:World) (hg:GoodM m) (hb:BAt w p m.body.length m.body) :
 Calls Tryz.prog 44 #[.agg (memC m p c)] w (PadPost w (putM m)):=by
 have hpl:=hg.pathL;have htl:m.target.length≤200:=target_le hg;obtain ⟨bl,hbl⟩:∃ bl,m.body.length=bl:=⟨_,rfl⟩;have hblm:bl≤1048576:=by rw [← hbl];exact hg.body
 obtain ⟨u,hu⟩:∃ u:Nat,m.uid=(u:Int):=⟨m.uid.toNat,by have:=hg.uid;omega⟩
 obtain ⟨g,hgg⟩:∃ g:Nat,m.gid=(g:Int):=⟨m.gid.toNat,by have:=hg.gid;omega⟩
 obtain ⟨t,ht⟩:∃ t:Nat,m.time=(t:Int):=⟨m.time.toNat,by have:=hg.time;omega⟩
 have hun:u < 1000000000000000000:=by have:=hg.uid;omega
 have hgn:g < 1000000000000000000:=by have:=hg.gid;omega
 have htn:t < 1000000000000000000:=by have:=hg.time;omega
 obtain ⟨b0,hb0⟩:∃ b,(cutR m.path).isSome=b:=⟨_,rfl⟩;obtain ⟨f0,hf0⟩:∃ b,fitsD m.path=b:=⟨_,rfl⟩;obtain ⟨f1,hf1⟩:∃ b,fitsD m.target=b:=⟨_,rfl⟩;obtain ⟨lp,hlp⟩:∃ b,longP m=b:=⟨_,rfl⟩;obtain ⟨ll,hll⟩:∃ b,longL m=b:=⟨_,rfl⟩
 have HLP:Hid (lp=(!b0 || !f0)):=Lib.hid (by
  rw [← hlp,← hb0,← hf0];unfold longP
  cases cutR m.path<;>rfl)
 have HLL:Hid (ll=(decide (100 < m.target.length) || !f1)):=Lib.hid (by rw [← hll,← hf1];rfl)
 obtain ⟨S1,hS1⟩:∃ S,(if lp then lineD (keyT 4) m.path else [])=S:=⟨_,rfl⟩
 obtain ⟨S2,hS2⟩:∃ S,S1++(if ll then lineD (keyT 5) m.target else [])=S:=⟨_,rfl⟩
 obtain ⟨S3,hS3⟩:∃ S,S2++(if 2097151 < u then lineD (keyT 0) (decL u) else [])=S:=⟨_,rfl⟩
 obtain ⟨S4,hS4⟩:∃ S,S3++(if 2097151 < g then lineD (keyT 1) (decL g) else [])=S:=⟨_,rfl⟩
 obtain ⟨S5,hS5⟩:∃ S,S4++(if 8589934591 < t then lineD (keyT 2) (decL t) else [])=S:=⟨_,rfl⟩
 have HS5:Hid (linesD (recsM m)=S5):=Lib.hid (by
  have e:∀ (c:Prop) [Decidable c] (k v:List UInt8),linesD (if c then [(k,v)] else [])=if c then lineD k v else []:=fun c _ k v => by
   split<;>simp [linesD]
  have ea:∀ a b:RecL,linesD (a++b)=linesD a++linesD b:=fun a b => by simp [linesD]
  rw [← hS5,← hS4,← hS3,← hS2,← hS1];unfold recsM;rw [ea,ea,ea,ea,e,e,e,e,e,hlp,hll,hu,hgg,ht];simp only [Int.toNat_natCast]
  congr 1
  ·congr 1
   ·congr 1
    split<;>split<;>first | rfl | omega
   ·split<;>split<;>first | rfl | omega
  ·split<;>split<;>first | rfl | omega)
 have HSL:Hid (S1.length≤S2.length∧S2.length≤S3.length∧S3.length≤S4.length∧S4.length≤S5.length):=Lib.hid (by
  rw [← hS5,← hS4,← hS3,← hS2];simp only [List.length_append]
  omega)
 have HS5L:Hid (S5.length≤1048576):=Lib.hid (by rw [← HS5.out];exact linesM_le hg)
 obtain ⟨h1,hh1⟩:∃ h:HeadV,HeadV.mk (if lp then longN else m.path) m.target m.kind m.mode (u:Int) (g:Int) (t:Int) (bl:Int) false=h:=⟨_,rfl⟩
 obtain ⟨h2,hh2⟩:∃ h:HeadV,{ h1 with link:=if ll then longN else m.target }=h:=⟨_,rfl⟩
 obtain ⟨h3,hh3⟩:∃ h:HeadV,{ h2 with uid:=if 2097151 < u then 0 else (u:Int) }=h:=⟨_,rfl⟩
 obtain ⟨h4,hh4⟩:∃ h:HeadV,{ h3 with gid:=if 2097151 < g then 0 else (g:Int) }=h:=⟨_,rfl⟩
 obtain ⟨h5,hh5⟩:∃ h:HeadV,{ h4 with time:=if 8589934591 < t then 0 else (t:Int) }=h:=⟨_,rfl⟩
 have HH5:Hid (headM m=h5):=Lib.hid (by
  rw [← hh5,← hh4,← hh3,← hh2,← hh1];unfold headM;rw [hlp,hll,hu,hgg,ht,hbl];have c1:((2097151:Int) < (u:Int)) ↔ 2097151 < u:=by omega
  have c2:((2097151:Int) < (g:Int)) ↔ 2097151 < g:=by omega
  have c3:((8589934591:Int) < (t:Int)) ↔ 8589934591 < t:=by omega
  simp only [c1,c2,c3])
 have HD1:=Lib.hid hS1;have HD2:=Lib.hid hS2;have HD3:=Lib.hid hS3;have HD4:=Lib.hid hS4;have HD5:=Lib.hid hS5;have HE1:=Lib.hid hh1;have HE2:=Lib.hid hh2;have HE3:=Lib.hid hh3;have HE4:=Lib.hid hh4;have HE5:=Lib.hid hh5;rw [hbl] at hb;obtain ⟨W1,hW1⟩:∃ W1,(w.alloc (.cells #[.string (str m.path),.string (str m.target),.int .u8 (m.kind.toNat:Int),.int .i64 m.mode,.int .i64 (u:Int),.int .i64 (g:Int),.int .i64 (t:Int),.slice p bl c] 37)).alloc (.cells (headC ⟨m.path,m.target,m.kind,m.mode,(u:Int),(g:Int),(t:Int),(bl:Int),false⟩) 57)=W1:=⟨_,rfl⟩
 have hP1:PM w #[.string (str m.path),.string (str m.target),.int .u8 (m.kind.toNat:Int),.int .i64 m.mode,.int .i64 (u:Int),.int .i64 (g:Int),.int .i64 (t:Int),.slice p bl c] W1 ⟨m.path,m.target,m.kind,m.mode,(u:Int),(g:Int),(t:Int),(bl:Int),false⟩:=by
  have b1:=Blk.new (w.alloc (.cells #[.string (str m.path),.string (str m.target),.int .u8 (m.kind.toNat:Int),.int .i64 m.mode,.int .i64 (u:Int),.int .i64 (g:Int),.int .i64 (t:Int),.slice p bl c] 37)) 57 (headC ⟨m.path,m.target,m.kind,m.mode,(u:Int),(g:Int),(t:Int),(bl:Int),false⟩);rw [World.size_alloc] at b1;rw [← hW1];exact ⟨((Below.refl _ w).alloc (Nat.le_refl _) _).alloc (by simp) _,(Blk.new w _ _).alloc _,b1⟩
 have HP1:=Lib.hid hP1;have HB:=Lib.hid hb;have HG:=Lib.hid hg;have HBL:=Lib.hid hbl;have HW1:=Lib.hid hW1;have HTN:=Lib.hid (And.intro hpl htl);have HUN:=Lib.hid (And.intro hun (And.intro hgn htn));have HBM:=Lib.hid hblm;obtain ⟨cx,cy,hcv⟩:=rcutV_is m.path;rw [hb0] at hcv;have HCV:=Lib.hid hcv;have HF0:=Lib.hid hf0;have HF1:=Lib.hid hf1;unfold memC;rw [hbl,hu,hgg,ht];clear hP1 hb hg hbl hW1 hpl htl hcv hu hgg ht hun hgn htn hb0 hf0 hf1 hlp hll hS1 hS2 hS3 hS4 hS5 hh1 hh2 hh3 hh4 hh5 hblm
 go_enter Tryz.func44,Tryz.ntmps44
 go_upto_region 3 with fail
 rw [show (w.alloc (.cells #[.string (str m.path),.string (str m.target),.int .u8 (m.kind.toNat:Int),.int .i64 m.mode,.int .i64 (u:Int),.int .i64 (g:Int),.int .i64 (t:Int),.slice p bl c] 37)).alloc (.cells #[.string (str m.path),.string (str m.target),.int .u8 (m.kind.toNat:Int),.int .i64 m.mode,.int .i64 (u:Int),.int .i64 (g:Int),.int .i64 (t:Int),.int .i64 (bl:Int),.bool false] 57)=W1 from HW1.out]
 have y0:=HP1.out.mem.cell 0;simp only [List.getElem?_toArray,List.getElem?_cons_zero] at y0
 go_wp2_with fail
 refine (rcut_any (str m.path) W1 (by rw [str_size];have:=HTN.out.1;omega)).mono ?_
 rw [str_data,HCV.out];rintro e w2 ⟨rfl,hk2⟩;have HP2:=Lib.hid (HP1.out.kept hk2);clear hk2 y0;have y0:=HP2.out.mem.cell 0;simp only [List.getElem?_toArray,List.getElem?_cons_zero] at y0
 go_upto_region 4 with fail
 go_cut [39] (fun s39 wx => s39=.bool lp∧wx=w2)
 case first =>
  cases b0 with
  | false =>
    go_wp2
    go_meet
    exact ⟨by rw [HLP.out];rfl,rfl⟩
  | true =>
    go_wp2_with fail
    refine (rfits_any (str m.path) w2 (by rw [str_size];have:=HTN.out.1;omega)).mono ?_
    rw [str_data,HF0.out];rintro e w3 ⟨rfl,rfl⟩
    go_wp2
    go_meet
    exact ⟨by rw [HLP.out];rfl,rfl⟩
 case rest =>
  obtain ⟨rfl,rfl⟩:=hcut
  go_upto_if 39 with fail
  go_cut [4] (fun s4 wx => s4=.string (str S1)∧PM w #[.string (str m.path),.string (str m.target),.int .u8 (m.kind.toNat:Int),.int .i64 m.mode,.int .i64 (u:Int),.int .i64 (g:Int),.int .i64 (t:Int),.slice p bl c] wx h1)
  case first =>
   cases lp with
   | false =>
     have EH:HeadV.mk m.path m.target m.kind m.mode (u:Int) (g:Int) (t:Int) (bl:Int) false=h1:=by rw [← HE1.out];rfl
     have ES:S1=[]:=by rw [← HD1.out];rfl
     go_wp2
     go_meet
     exact ⟨by rw [ES];rfl,by rw [← EH];exact HP2.out⟩
   | true =>
     go_wp2_with fail
     refine (line_any (keyT 4) m.path _ (by have:=HTN.out.1;have:=HTN.out.2;simp [keyT];omega)).mono ?_
     rintro e w3 ⟨rfl,hb3⟩;have HP3:=Lib.hid (HP2.out.below hb3);clear hb3;have b9:=HP3.out.hd;have z0:=b9.cell 0;have fz0:=b9.frozen 0;simp only [headC,List.getElem?_toArray,List.getElem?_cons_zero] at z0;clear b9;have ES:S1=lineD (keyT 4) m.path:=by rw [← HD1.out];rfl
     obtain ⟨A,hA⟩:∃ A:ByteArray,str (lineD (keyT 4) m.path)=A:=⟨_,rfl⟩;obtain ⟨ka,hka⟩:∃ ka,A.size=ka:=⟨_,rfl⟩;have hkl:(lineD (keyT 4) m.path).length=ka:=by rw [← hka,← hA,str_size]
     have hsum:ka≤9223372036854775807:=by
      have h1:=congrArg List.length ES;rw [hkl] at h1;have h2:=HSL.out;have h3:=HS5L.out;omega
     have hsum0:0+ka≤9223372036854775807:=by omega
     rw [hA];clear hkl;have HES:=Lib.hid ES;have HA:=Lib.hid hA;clear ES hA
     go_wp2
     go_meet
     exact ⟨by rw [HES.out,← HA.out];exact congrArg Value.string (str_app [] _),HP3.out.set 0 _ (by
      have h9:=HP3.out.hd.set 0 (.string (str longN)) (by show 0 < 9;decide)
      rw [show h1=HeadV.mk longN m.target m.kind m.mode (u:Int) (g:Int) (t:Int) (bl:Int) false from by rw [← HE1.out];rfl]
      exact h9)⟩
  case rest =>
   obtain ⟨rfl,hP⟩:=hcut;have HP4:=Lib.hid hP;clear hP y0
   go_upto_region 7 with fail
   have y1:=HP4.out.mem.cell 1;simp only [List.getElem?_toArray,List.getElem?_cons_zero,List.getElem?_cons_succ] at y1
   go_cut [56] (fun s56 wx => s56=.bool ll∧wx=wc)
   case first =>
    have hs:(str m.target).size=m.target.length:=str_size _
    by_cases hl:100 < m.target.length
    ·have hl2:(100:Int) < (m.target.length:Int):=by omega
     have El:ll=true:=by rw [HLL.out];simp [hl]
     go_wp2
     go_meet
     exact ⟨by rw [El],rfl⟩
    ·have hl2:¬ (100:Int) < (m.target.length:Int):=by omega
     have El:ll=!f1:=by rw [HLL.out];simp [hl]
     go_wp2_with fail
     refine (rfits_any (str m.target) _ (by rw [str_size];have:=HTN.out.2;omega)).mono ?_
     rw [str_data,HF1.out];rintro e w3 ⟨rfl,rfl⟩
     go_wp2
     go_meet
     exact ⟨by rw [El],rfl⟩
   case rest =>
    obtain ⟨rfl,rfl⟩:=hcut
    go_upto_if 56 with fail
    go_cut [4] (fun s4 wx => s4=.string (str S2)∧PM w #[.string (str m.path),.string (str m.target),.int .u8 (m.kind.toNat:Int),.int .i64 m.mode,.int .i64 (u:Int),.int .i64 (g:Int),.int .i64 (t:Int),.slice p bl c] wx h2)
    case first =>
     cases ll with
     | false =>
       have EH:h1=h2:=by rw [← HE2.out,← HE1.out];rfl
       have ES:S2=S1:=by rw [← HD2.out];simp
       go_wp2
       go_meet
       exact ⟨by rw [ES],by rw [← EH];exact HP4.out⟩
     | true =>
       go_wp2_with fail
       refine (line_any (keyT 5) m.target _ (by have:=HTN.out.1;have:=HTN.out.2;simp [keyT];omega)).mono ?_
       rintro e w3 ⟨rfl,hb3⟩;have HP3:=Lib.hid (HP4.out.below hb3);clear hb3;have b9:=HP3.out.hd;have z1:=b9.cell 1;have fz1:=b9.frozen 1;simp only [headC,List.getElem?_toArray,List.getElem?_cons_zero,List.getElem?_cons_succ] at z1;clear b9;have ES:S2=S1++lineD (keyT 5) m.target:=by rw [← HD2.out];rfl
       obtain ⟨A,hA⟩:∃ A:ByteArray,str (lineD (keyT 5) m.target)=A:=⟨_,rfl⟩;obtain ⟨ka,hka⟩:∃ ka,A.size=ka:=⟨_,rfl⟩;have hkl:(lineD (keyT 5) m.target).length=ka:=by rw [← hka,← hA,str_size]
       obtain ⟨Q,hQ⟩:∃ Q:ByteArray,str S1=Q:=⟨_,rfl⟩;obtain ⟨kq,hkq⟩:∃ kq,Q.size=kq:=⟨_,rfl⟩;have hql:S1.length=kq:=by rw [← hkq,← hQ,str_size]
       have hsum:kq+ka≤9223372036854775807:=by
        have h1:=congrArg List.length ES;rw [List.length_append,hql,hkl] at h1;have h2:=HSL.out;have h3:=HS5L.out;omega
       rw [hA,hQ];clear hkl hql;have HES:=Lib.hid ES;have HA:=Lib.hid hA;have HQ:=Lib.hid hQ;clear ES hA hQ
       go_wp2
       go_meet
       exact ⟨by rw [HES.out,← HA.out,← HQ.out];exact congrArg Value.string (str_app S1 _),HP3.out.set 1 _ (by
        have h9:=HP3.out.hd.set 1 (.string (str longN)) (by show 1 < 9;decide)
        rw [show h2 = { h1 with link:=longN } from by rw [← HE2.out];rfl]
        exact h9)⟩
    case rest =>
     obtain ⟨rfl,hP⟩:=hcut;have HP5:=Lib.hid hP;clear hP;have y4:=HP5.out.mem.cell 4;simp only [List.getElem?_toArray,List.getElem?_cons_zero,List.getElem?_cons_succ] at y4
     go_upto_if 67 with fail
     go_cut [4] (fun s4 wx => s4=.string (str S3)∧PM w #[.string (str m.path),.string (str m.target),.int .u8 (m.kind.toNat:Int),.int .i64 m.mode,.int .i64 (u:Int),.int .i64 (g:Int),.int .i64 (t:Int),.slice p bl c] wx h3)
     case first =>
      by_cases hx:2097151 < u
      ·have hx2:(2097151:Int) < (u:Int):=by omega
       go_wp2_with fail
       refine (dec_any u _ HUN.out.1).mono ?_
       rintro e wq ⟨rfl,hbq⟩;have HPQ:=Lib.hid (HP5.out.below hbq);clear hbq
       go_wp2_with fail
       refine (line_any (keyT 0) (decL u) _ (by have:=HTN.out.1;have:=HTN.out.2;have:=dec_le u 18 (by omega) HUN.out.1;simp [keyT];omega)).mono ?_
       rintro e w3 ⟨rfl,hb3⟩;have HP3:=Lib.hid (HPQ.out.below hb3);clear hb3;have b9:=HP3.out.hd;have z4:=b9.cell 4;have fz4:=b9.frozen 4;simp only [headC,List.getElem?_toArray,List.getElem?_cons_zero,List.getElem?_cons_succ] at z4;clear b9;have ES:S3=S2++lineD (keyT 0) (decL u):=by rw [← HD3.out];simp [hx]
       obtain ⟨A,hA⟩:∃ A:ByteArray,str (lineD (keyT 0) (decL u))=A:=⟨_,rfl⟩;obtain ⟨ka,hka⟩:∃ ka,A.size=ka:=⟨_,rfl⟩;have hkl:(lineD (keyT 0) (decL u)).length=ka:=by rw [← hka,← hA,str_size]
       obtain ⟨Q,hQ⟩:∃ Q:ByteArray,str S2=Q:=⟨_,rfl⟩;obtain ⟨kq,hkq⟩:∃ kq,Q.size=kq:=⟨_,rfl⟩;have hql:S2.length=kq:=by rw [← hkq,← hQ,str_size]
       have hsum:kq+ka≤9223372036854775807:=by
        have h1:=congrArg List.length ES;rw [List.length_append,hql,hkl] at h1;have h2:=HSL.out;have h3:=HS5L.out;omega
       rw [hA,hQ];clear hkl hql;have HES:=Lib.hid ES;have HA:=Lib.hid hA;have HQ:=Lib.hid hQ;clear ES hA hQ
       go_wp2
       go_meet
       exact ⟨by rw [HES.out,← HA.out,← HQ.out];exact congrArg Value.string (str_app S2 _),HP3.out.set 4 _ (by
        have h9:=HP3.out.hd.set 4 (.int .i64 0) (by show 4 < 9;decide)
        rw [show h3 = { h2 with uid:=0 } from by rw [← HE3.out];simp [hx]]
        exact h9)⟩
      ·have hx2:¬ (2097151:Int) < (u:Int):=by omega
       have EH:h3=h2:=by
        rw [← HE3.out,if_neg hx,← HE2.out,← HE1.out]
       have ES:S3=S2:=by rw [← HD3.out];simp [hx]
       go_wp2
       go_meet
       exact ⟨by rw [ES],by rw [EH];exact HP5.out⟩
     case rest =>
      obtain ⟨rfl,hP⟩:=hcut;have HP6:=Lib.hid hP;clear hP;have y5:=HP6.out.mem.cell 5;simp only [List.getElem?_toArray,List.getElem?_cons_zero,List.getElem?_cons_succ] at y5
      go_upto_if 81 with fail
      go_cut [4] (fun s4 wx => s4=.string (str S4)∧PM w #[.string (str m.path),.string (str m.target),.int .u8 (m.kind.toNat:Int),.int .i64 m.mode,.int .i64 (u:Int),.int .i64 (g:Int),.int .i64 (t:Int),.slice p bl c] wx h4)
      case first =>
       by_cases hx:2097151 < g
       ·have hx2:(2097151:Int) < (g:Int):=by omega
        go_wp2_with fail
        refine (dec_any g _ HUN.out.2.1).mono ?_
        rintro e wq ⟨rfl,hbq⟩;have HPQ:=Lib.hid (HP6.out.below hbq);clear hbq
        go_wp2_with fail
        refine (line_any (keyT 1) (decL g) _ (by have:=HTN.out.1;have:=HTN.out.2;have:=dec_le g 18 (by omega) HUN.out.2.1;simp [keyT];omega)).mono ?_
        rintro e w3 ⟨rfl,hb3⟩;have HP3:=Lib.hid (HPQ.out.below hb3);clear hb3;have b9:=HP3.out.hd;have z5:=b9.cell 5;have fz5:=b9.frozen 5;simp only [headC,List.getElem?_toArray,List.getElem?_cons_zero,List.getElem?_cons_succ] at z5;clear b9;have ES:S4=S3++lineD (keyT 1) (decL g):=by rw [← HD4.out];simp [hx]
        obtain ⟨A,hA⟩:∃ A:ByteArray,str (lineD (keyT 1) (decL g))=A:=⟨_,rfl⟩;obtain ⟨ka,hka⟩:∃ ka,A.size=ka:=⟨_,rfl⟩;have hkl:(lineD (keyT 1) (decL g)).length=ka:=by rw [← hka,← hA,str_size]
        obtain ⟨Q,hQ⟩:∃ Q:ByteArray,str S3=Q:=⟨_,rfl⟩;obtain ⟨kq,hkq⟩:∃ kq,Q.size=kq:=⟨_,rfl⟩;have hql:S3.length=kq:=by rw [← hkq,← hQ,str_size]
        have hsum:kq+ka≤9223372036854775807:=by
         have h1:=congrArg List.length ES;rw [List.length_append,hql,hkl] at h1;have h2:=HSL.out;have h3:=HS5L.out;omega
        rw [hA,hQ];clear hkl hql;have HES:=Lib.hid ES;have HA:=Lib.hid hA;have HQ:=Lib.hid hQ;clear ES hA hQ
        go_wp2
        go_meet
        exact ⟨by rw [HES.out,← HA.out,← HQ.out];exact congrArg Value.string (str_app S3 _),HP3.out.set 5 _ (by
         have h9:=HP3.out.hd.set 5 (.int .i64 0) (by show 5 < 9;decide)
         rw [show h4 = { h3 with gid:=0 } from by rw [← HE4.out];simp [hx]]
         exact h9)⟩
       ·have hx2:¬ (2097151:Int) < (g:Int):=by omega
        have EH:h4=h3:=by
         rw [← HE4.out,if_neg hx,← HE3.out,← HE2.out,← HE1.out]
        have ES:S4=S3:=by rw [← HD4.out];simp [hx]
        go_wp2
        go_meet
        exact ⟨by rw [ES],by rw [EH];exact HP6.out⟩
      case rest =>
       obtain ⟨rfl,hP⟩:=hcut;have HP7:=Lib.hid hP;clear hP;have y6:=HP7.out.mem.cell 6;simp only [List.getElem?_toArray,List.getElem?_cons_zero,List.getElem?_cons_succ] at y6
       go_upto_if 95 with fail
       go_cut [4] (fun s4 wx => s4=.string (str S5)∧PM w #[.string (str m.path),.string (str m.target),.int .u8 (m.kind.toNat:Int),.int .i64 m.mode,.int .i64 (u:Int),.int .i64 (g:Int),.int .i64 (t:Int),.slice p bl c] wx h5)
       case first =>
        by_cases hx:8589934591 < t
        ·have hx2:(8589934591:Int) < (t:Int):=by omega
         go_wp2_with fail
         refine (dec_any t _ HUN.out.2.2).mono ?_
         rintro e wq ⟨rfl,hbq⟩;have HPQ:=Lib.hid (HP7.out.below hbq);clear hbq
         go_wp2_with fail
         refine (line_any (keyT 2) (decL t) _ (by have:=HTN.out.1;have:=HTN.out.2;have:=dec_le t 18 (by omega) HUN.out.2.2;simp [keyT];omega)).mono ?_
         rintro e w3 ⟨rfl,hb3⟩;have HP3:=Lib.hid (HPQ.out.below hb3);clear hb3;have b9:=HP3.out.hd;have z6:=b9.cell 6;have fz6:=b9.frozen 6;simp only [headC,List.getElem?_toArray,List.getElem?_cons_zero,List.getElem?_cons_succ] at z6;clear b9;have ES:S5=S4++lineD (keyT 2) (decL t):=by rw [← HD5.out];simp [hx]
         obtain ⟨A,hA⟩:∃ A:ByteArray,str (lineD (keyT 2) (decL t))=A:=⟨_,rfl⟩;obtain ⟨ka,hka⟩:∃ ka,A.size=ka:=⟨_,rfl⟩;have hkl:(lineD (keyT 2) (decL t)).length=ka:=by rw [← hka,← hA,str_size]
         obtain ⟨Q,hQ⟩:∃ Q:ByteArray,str S4=Q:=⟨_,rfl⟩;obtain ⟨kq,hkq⟩:∃ kq,Q.size=kq:=⟨_,rfl⟩;have hql:S4.length=kq:=by rw [← hkq,← hQ,str_size]
         have hsum:kq+ka≤9223372036854775807:=by
          have h1:=congrArg List.length ES;rw [List.length_append,hql,hkl] at h1;have h2:=HSL.out;have h3:=HS5L.out;omega
         rw [hA,hQ];clear hkl hql;have HES:=Lib.hid ES;have HA:=Lib.hid hA;have HQ:=Lib.hid hQ;clear ES hA hQ
         go_wp2
         go_meet
         exact ⟨by rw [HES.out,← HA.out,← HQ.out];exact congrArg Value.string (str_app S4 _),HP3.out.set 6 _ (by
          have h9:=HP3.out.hd.set 6 (.int .i64 0) (by show 6 < 9;decide)
          rw [show h5 = { h4 with time:=0 } from by rw [← HE5.out];simp [hx]]
          exact h9)⟩
        ·have hx2:¬ (8589934591:Int) < (t:Int):=by omega
         have EH:h5=h4:=by
          rw [← HE5.out,if_neg hx,← HE4.out,← HE3.out,← HE2.out,← HE1.out]
         have ES:S5=S4:=by rw [← HD5.out];simp [hx]
         go_wp2
         go_meet
         exact ⟨by rw [ES],by rw [EH];exact HP7.out⟩
       case rest =>
        obtain ⟨rfl,hP⟩:=hcut;have HP8:=Lib.hid hP;clear hP;have hn5:(str S5).size=S5.length:=str_size S5;have he5:(str S5).toList.isEmpty=decide (S5=[]):=str_empty S5;obtain ⟨eb,heb⟩:∃ b,decide (S5=[])=b:=⟨_,rfl⟩;obtain ⟨n5,hnn⟩:∃ k,S5.length=k:=⟨_,rfl⟩;rw [heb] at he5;rw [hnn] at hn5;obtain ⟨X,hX⟩:∃ X,(if S5=[] then [] else (putR (paxH S5.length)).getD []++padB S5)=X:=⟨_,rfl⟩
        have HX:=Lib.hid hX;have HEB:=Lib.hid heb;have HN5:=Lib.hid hnn;have hn5l:n5≤1048576:=by rw [← hnn];exact HS5L.out
        clear hX heb hnn;obtain ⟨Z5,hZ5⟩:∃ Z,str S5=Z:=⟨_,rfl⟩;have HZ5:=Lib.hid hZ5;rw [hZ5] at hn5 he5 ⊢;clear hZ5
        go_upto_if 107 with fail
        go_cut [8] (fun s8 wx => OwnB wx (w.heap.size+2) s8 X.length X∧PM w #[.string (str m.path),.string (str m.target),.int .u8 (m.kind.toNat:Int),.int .i64 m.mode,.int .i64 (u:Int),.int .i64 (g:Int),.int .i64 (t:Int),.slice p bl c] wx h5)
        case first =>
         cases eb with
         | true =>
           have hs:S5=[]:=of_decide_eq_true HEB.out;have hx:X=[]:=by rw [← HX.out,if_pos hs]
           go_wp2
           go_meet
           exact ⟨by rw [hx];exact World.ownsRow_nil _ _ _ _,HP8.out⟩
         | false =>
           have hs:¬ S5=[]:=of_decide_eq_false HEB.out;obtain ⟨Hx,hx1,hx2,hx3⟩:=paxH_put (n:=n5) hn5l;have hx:X=Hx++padB S5:=by rw [← HX.out,if_neg hs,HN5.out,hx1];rfl
           have HHX:=Lib.hid (And.intro hx1 (And.intro hx2 hx));clear hs hx1 hx2 hx3 hx
           go_wp2_with fail
           refine (show Calls _ _ #[.agg #[.string ⟨#[64,112,97,120]⟩,.string ⟨#[]⟩,.int .u8 120,.int .i64 0,.int .i64 0,.int .i64 0,.int .i64 0,.int .i64 (n5:Int),.bool false]] _ (PutHPost _ (putR (paxH n5))) from rputH_any (paxH n5) (paxH_wf hn5l) (by show (4:Nat)≤_;decide) (by show (0:Nat)≤_;decide) _).mono ?_
           rintro e w3 ⟨hk3,(⟨bs,gx,hr,rfl,hrow,hge⟩ | ⟨hr,rfl⟩)⟩
           ·obtain rfl:bs=Hx:=by rw [HHX.out.1] at hr;exact (Option.some.inj hr).symm
            have HP9:=Lib.hid (HP8.out.kept hk3);have hB2:w.heap.size+2≤wc.heap.size:=by have:=HP8.out.hd.lt;omega
            have HO9:Hid (OwnB w3 (w.heap.size+2) (.slice (some ⟨gx,0,none⟩) 512 512) 512 bs):=Lib.hid (by
             have:=ownB_row hrow (Nat.le_trans hB2 hge) (by rw [HHX.out.2.1];decide)
             rw [HHX.out.2.1] at this
             exact this)
            have HB2:=Lib.hid hB2;clear hk3 hrow hge hr hB2;have hm2:Z5.size≤maxLen:=by rw [hn5];unfold maxLen;omega
            obtain ⟨hc1,hc2⟩:=str_cap w3 5 Z5 hm2;have cvb:=Lib.run_convert_string_bytes (P:=Tryz.prog) w3 9 22 5 Z5 Tryz.underlying9 Tryz.underlying22 Tryz.underlying5;have hbt:=str_bat w3 5 Z5;have hsb:=str_below w3 5 Z5;obtain ⟨w4,hw4⟩:∃ w4,bytesWorld w3 5 Z5=w4:=⟨_,rfl⟩;rw [hw4] at cvb hbt hsb;rw [hn5] at cvb hbt;have HBT:=Lib.hid hbt;have HSB:=Lib.hid hsb;have HP10:=Lib.hid (HP9.out.below hsb);have HO10:=Lib.hid (HO9.out.kept (Kept.of_below hsb noneB) (fun _ _ => id))
            clear hbt hsb hw4 hc1 hc2 hm2
            go_wp2_with fail
            refine (rpadded_any _ n5 _ S5 w4 HN5.out (by omega) (by have:=HBT.out;rw [← HZ5.out,str_data] at this;exact this)).mono ?_
            rintro e w5 ⟨v5,rfl,ho5,hk5⟩;obtain ⟨p5,c5,rfl,_,_,hb5,_,_⟩:=ho5.slice;have HP11:=Lib.hid (HP10.out.kept hk5);have HO11:=Lib.hid (HO10.out.kept hk5 (fun _ _ => id))
            have HB5:=Lib.hid hb5;have hpl5:(padB S5).length≤2000000:=by rw [padB_length,HN5.out];have:=(blocks_ge n5).2;omega
            have HPL:=Lib.hid hpl5;have hle5:w.heap.size+2≤w5.heap.size:=by have:=HP11.out.hd.lt;omega
            have HLE:=Lib.hid hle5;obtain ⟨i0,hi,hz0,hz1,hz2⟩:=info_parts infoU8;have HI:=Lib.hid hi;have HZ0:=Lib.hid hz0;have HZ1:=Lib.hid hz1;have HZ2:=Lib.hid hz2;clear ho5 hk5 hb5 cvb hpl5 hle5 hi hz0 hz1 hz2
            go_wp2_with (at_builtin;refine append_bytes rfl _ _ 22 rfl (w.heap.size+2) 5 i0 Tryz.underlying22 HI.out HZ0.out HZ1.out HZ2.out _ 512 (nums bs) rfl HO11.out p5 (padB S5).length c5 (padB S5) rfl HB5.out rfl ?d2 HLE.out ?_)
            case d2 => have:=HPL.out;omega
            intro v6 w6 hown6 hgrow6;have hk6:Kept (fun k => Value.ownBlock (.slice (some ⟨gx,0,none⟩) 512 512)=some k) w5 w6:=(Kept.refl _ w5).grown hgrow6 (fun k hk => .inr hk)
            have hgx:=(HO11.out.lt gx rfl).1
            have F:Hid (OwnB w6 (w.heap.size+2) v6 X.length X∧PM w #[.string (str m.path),.string (str m.target),.int .u8 (m.kind.toNat:Int),.int .i64 m.mode,.int .i64 (u:Int),.int .i64 (g:Int),.int .i64 (t:Int),.slice p bl c] w6 h5):=Lib.hid ⟨by
             rw [HHX.out.2.2];unfold OwnB;rw [List.length_append,HHX.out.2.1];have e:(nums (bs++padB S5)).map (Value.int .u8)=(nums bs++nums (padB S5)).map (Value.int .u8):=by unfold nums;rw [List.map_append]
             rw [e]
             first | exact hown6 | (rw [List.map_append];exact hown6),⟨HP11.out.bel.trans (hk6.below HP11.out.bel.size (fun k hk => by have h1:=Option.some.inj hk;have h1:gx=k:=h1;omega)),HP11.out.mem.keptS hk6 (fun e => by have h1:=Option.some.inj e;have h1:gx=w.heap.size:=h1;omega),HP11.out.hd.keptS hk6 (fun e => by have h1:=Option.some.inj e;have h1:gx=w.heap.size+1:=h1;omega)⟩⟩
            clear hown6 hgrow6 hk6 hgx
            go_wp2
            go_meet
            exact F.out
           ·rw [HHX.out.1] at hr
            cases hr
        case rest =>
         obtain ⟨hO,hP⟩:=hcut;have HO9:=Lib.hid hO;have HP9:=Lib.hid hP;obtain ⟨H,hh1,hh2,hh3⟩:=headM_put HG.out;rw [HH5.out] at hh1;have HHH:=Lib.hid (And.intro hh1 hh2);have hwf:=headM_wf HG.out;have htx:=headM_tx HG.out;rw [HH5.out] at hwf htx;have HWF:=Lib.hid (And.intro hwf htx);clear hO hP hh1 hh2 hh3 hwf htx hn5 he5;have b9:=HP9.out.hd;have d0:=b9.cell 0;have d1:=b9.cell 1;have d2:=b9.cell 2;have d3:=b9.cell 3;have d4:=b9.cell 4;have d5:=b9.cell 5;have d6:=b9.cell 6;have d7:=b9.cell 7;have d8:=b9.cell 8;simp only [headC,List.getElem?_toArray,List.getElem?_cons_zero,List.getElem?_cons_succ] at d0 d1 d2 d3 d4 d5 d6 d7 d8
         clear b9
         go_wp2_with fail
         refine (rputH_any h5 HWF.out.1 HWF.out.2.1 HWF.out.2.2 _).mono ?_
         rintro e w3 ⟨hk3,(⟨bs,gy,hr,rfl,hrow,hge⟩ | ⟨hr,rfl⟩)⟩
         ·obtain rfl:bs=H:=by rw [HHH.out.1] at hr;exact (Option.some.inj hr).symm
          have HP10:=Lib.hid (HP9.out.kept hk3);have HO10:=Lib.hid (HO9.out.kept hk3 (fun _ _ => id))
          have HRW:=Lib.hid hrow;have HSEP:Hid (∀ k,u8.ownBlock=some k → k≠gy):=Lib.hid (fun k hk => by have:=(HO9.out.lt k hk).2;omega)
          clear hk3 hrow hge hr d0 d1 d2 d3 d4 d5 d6 d7 d8
          go_upto_region 24 with fail
          refine wp_region_any (by kernel_rfl) (wpAny_ops (ops':=put24Ops) (by kernel_rfl) ?_)
          refine put24_region (w:=w) (w1:=w3) (w.heap.size+2) w.heap.size gy #[.string (str m.path),.string (str m.target),.int .u8 (m.kind.toNat:Int),.int .i64 m.mode,.int .i64 (u:Int),.int .i64 (g:Int),.int .i64 (t:Int),.slice p bl c] u8 X bs m.body p bl c ?a1 ?a2 ?a3 ?a4 ?a5 ?a6 ?a7 ?a8 ?a9 ?a10 ?a11 ?a12 ?a13 ?a14 ?a15 ?a16 ?a17 ?a18 ?a19 ?a20
          case a1 => exact Nat.le_refl 132
          case a2 => rfl
          case a3 => rfl
          case a4 => rfl
          case a5 => exact HP10.out.bel
          case a6 => exact HP10.out.mem
          case a7 => rfl
          case a8 => exact Nat.le_refl _
          case a9 => exact HO10.out
          case a10 => exact Nat.lt_add_of_pos_right (by decide)
          case a11 => exact HP10.out.hd.lt
          case a12 => exact Nat.le_add_right _ _
          case a13 => have:=HRW.out.bat;rw [HHH.out.2] at this;exact this
          case a14 => exact HHH.out.2
          case a15 => exact HSEP.out
          case a16 => exact HB.out
          case a17 => exact HBL.out
          case a18 => exact HBM.out
          case a19 =>
           rw [← HX.out]
           split
           ·exact Nat.zero_le _
           ·obtain ⟨Hx,hx1,hx2,_⟩:=paxH_put (n:=S5.length) HS5L.out
            rw [hx1,Option.getD_some,List.length_append,hx2,padB_length];have h1:=(blocks_ge S5.length).2;have h2:=HS5L.out;clear hn5l;omega
          intro γ w9 ho9 hb9
          have F:Hid (PadPost w (putM m) (.returned γ.v2) w9):=Lib.hid (by
           have e:putM m=(X++bs)++padB m.body:=by
            unfold putM;rw [HS5.out,HH5.out,HHH.out.1,← HX.out];simp only [Option.getD_some,List.append_assoc]
           rw [e]
           exact ⟨γ.v2,rfl,ho9.mono (Nat.le_add_right _ _),Kept.of_below hb9 noneB⟩)
          clear ho9 hb9;simp only [Exit.then]
          apply_assumption
          simp only [Act.put,List.setIfInBounds_toArray,List.set_cons_zero,List.set_cons_succ]
          go_wp2
          go_ret
          exact F.out
         ·rw [HHH.out.1] at hr
          cases hr
end Go.Proofs.YtdjedimjhogdoaaGreatDoor.Mem
end
section
namespace Go.Proofs.YtdjedimjhogdoaaGreatDoor.Mem
open Go.ChangeShapes Go.WideShapes Go.ChangeAt Go.RowKit Base Byt Txt Bk Hp Head Num Path Block Rec Go.Lib
set_option linter.unusedVariables false
set_option maxRecDepth 100000
theorem putM_len {m:MemV} (h:GoodM m):(putM m).length≤3000000:=by
 have hb:=(blocks_ge m.body.length).2;have hl:=(blocks_ge (linesD (recsM m)).length).2;have hq:=linesM_le h;have hq2:=h.body;obtain ⟨H,_,h2,_,(⟨_,e⟩ | ⟨X,_,x2,_,e⟩)⟩:=put_laid h
 ·rw [e,List.length_append,padB_length,h2];omega
 ·rw [e,List.length_append,List.length_append,List.length_append,padB_length,padB_length,h2,x2];omega
theorem putAllM_len:∀ (ms:List MemV),(∀ m ∈ ms,GoodM m) → (putAllM ms).length≤ms.length * 3000000
 | [],_ => Nat.zero_le _
 | m :: ms,h => by
   rw [putAllM_cons,List.length_append,List.length_cons];have h1:=putM_len (h m (List.mem_cons_self ..));have h2:=putAllM_len ms (fun x hx => h x (List.mem_cons_of_mem _ hx))
   omega
theorem takeP_succ (xs:List MP) (k:Nat) (h:k < xs.length):(xs.take (k+1)).map MP.m=(xs.take k).map MP.m++[(xs.getD k zeroP).m]:=by
 rw [List.take_succ_eq_append_getElem h,List.map_append,List.getD,List.getElem?_eq_getElem h];rfl
theorem getP_mem (xs:List MP) (k:Nat) (h:k < xs.length):xs.getD k zeroP ∈ xs:=by
 rw [List.getD,List.getElem?_eq_getElem h];exact List.getElem_mem h
set_option maxHeartbeats 4000000 in
theorem rarch_any (w:World) (p:Option Addr) (n c:Nat) (xs:List MP) (h:MemsAt w p n xs) (hg:∀ x ∈ xs,GoodM x.m) (hn:n≤100) :
 Calls Tryz.prog 21 #[.slice p n c] w (PadPost w (archD (xs.map MP.m))):=by
 obtain ⟨i0,hi,hz0,hz1,hz2⟩:=info_parts infoU8;have HI:=Lib.hid hi;have HZ0:=Lib.hid hz0;have HZ1:=Lib.hid hz1;have HZ2:=Lib.hid hz2;have HM:=Lib.hid h;have HL:=Lib.hid h.1;have HG:=Lib.hid hg;clear hi hz0 hz1 hz2 h hg
 go_enter Tryz.func21,Tryz.ntmps21
 go_wp2_with fail
 go_loopw [3,4] (fun o i wr => ∃ (j:Nat),j≤n∧i=.int .i64 (j:Int)∧Hid (OwnB wr w.heap.size o (putAllM ((xs.take j).map MP.m)).length (putAllM ((xs.take j).map MP.m)))∧Hid (Below w.heap.size w wr)) (fun _ i _ => n - (RowKit.intOf i).toNat)
 case atStart => exact ⟨0,Nat.zero_le _,rfl,Lib.hid (World.ownsRow_nil _ _ _ _),Lib.hid (Below.refl _ _)⟩
 case round =>
  obtain ⟨j,hj,rfl,hO,hB⟩:=hrel
  have hlen:(putAllM ((xs.take j).map MP.m)).length≤300000000:=by
   have:=putAllM_len ((xs.take j).map MP.m) (fun m hm => by
    obtain ⟨x,hx,rfl⟩:=List.mem_map.1 hm
    exact HG.out x (List.mem_of_mem_take hx))
   rw [List.length_map,List.length_take] at this;omega
  have HLEN:=Lib.hid hlen;clear hlen
  by_cases hlt:j < n
  ·have hT:=takeP_succ xs j (by rw [HL.out];exact hlt)
   have hGy:=HG.out _ (getP_mem xs j (by rw [HL.out];exact hlt))
   obtain ⟨b,o,rfl,hb,hBd,c0,c1,c2,c3,c4,c5,c6,c7⟩:=(HM.out.below hB.out).cells hlt;obtain ⟨y,hy⟩:∃ y,xs.getD j zeroP=y:=⟨_,rfl⟩;rw [hy] at hT hGy hBd c0 c1 c2 c3 c4 c5 c6 c7;rw [Nat.mul_comm] at c0 c1 c2 c3 c4 c5 c6 c7;have HT:=Lib.hid hT;have HGy:=Lib.hid hGy;have HBd:=Lib.hid hBd;have hltz:(j:Int) < (n:Int):=by omega
   clear hT hGy hBd hb hy;obtain ⟨A,hA⟩:∃ A,putAllM ((xs.take j).map MP.m)=A:=⟨_,rfl⟩;rw [hA] at hO HLEN;have HA:=Lib.hid hA;clear hA
   go_wp2_with fail
   refine (rput_any y.m y.p y.c _ HGy.out HBd.out.bat).mono ?_
   rintro e w2 ⟨v2,rfl,ho2,hk2⟩;obtain ⟨p2,q2,rfl,_,_,hb2,_,_⟩:=ho2.slice;have HB2:=Lib.hid hb2;have HO2:=Lib.hid (hO.out.kept hk2 (fun _ _ => id))
   have HK2:=Lib.hid (hB.out.trans (hk2.below hB.out.size (fun _ h => h.elim)))
   have HPL:=Lib.hid (putM_len HGy.out);clear hb2 ho2 hk2 c0 c1 c2 c3 c4 c5 c6 c7
   go_wp2_with (at_builtin;refine append_bytes rfl _ _ 22 rfl w.heap.size 5 i0 Tryz.underlying22 HI.out HZ0.out HZ1.out HZ2.out _ _ _ rfl HO2.out p2 (putM y.m).length q2 (putM y.m) rfl HB2.out rfl ?d2 ?d3 ?_)
   case d2 => have:=HPL.out;have:=HLEN.out;omega
   case d3 => exact HK2.out.size
   intro v3 w3 hown hgrow
   have F:Hid (OwnB w3 w.heap.size v3 (putAllM ((xs.take (j+1)).map MP.m)).length (putAllM ((xs.take (j+1)).map MP.m))∧Below w.heap.size w w3):=Lib.hid ⟨by
    have e:putAllM ((xs.take (j+1)).map MP.m)=A++putM y.m:=by
     rw [HT.out,putAllM_app,putAllM_cons,HA.out];simp [putAllM]
    rw [e,List.length_append];unfold OwnB;rw [show nums (A++putM y.m)=nums A++nums (putM y.m) by unfold nums;rw [List.map_append]]
    first | exact hown | (rw [List.map_append];exact hown),HK2.out.trans (((Kept.refl _ w2).grown hgrow (fun k hk => .inr hk)).below HK2.out.size (fun k hk => (HO2.out.lt k hk).1))⟩
   clear hown hgrow
   go_wp2
   go_roundw
   case rel => exact ⟨j+1,by omega,by go_num,Lib.hid F.out.1,Lib.hid F.out.2⟩
   case measure => simp [RowKit.intOf];omega
  ·obtain rfl:j=n:=by omega
   have hks:¬ ((j:Int) < (j:Int)):=by omega
   have e:xs.take j=xs:=List.take_of_length_le (by rw [HL.out];exact Nat.le_refl _)
   rw [e] at hO HLEN;clear e
   go_wp2_with (at_builtin;refine append_zeros_new rfl _ _ 22 3 rfl w.heap.size 5 i0 .i64 .i64 Tryz.underlying22 Tryz.underlying3 HI.out HZ0.out HZ1.out HZ2.out _ (putAllM (xs.map MP.m)).length (nums (putAllM (xs.map MP.m))) rfl hO.out _ 1024 rfl ?e1 ?e2 hB.out.size ?_)
   case e2 => have:=HLEN.out;omega
   intro v3 w3 hown hgrow _
   have F:Hid (PadPost w (archD (xs.map MP.m)) (.returned v3) w3):=Lib.hid (by
    refine ⟨v3,rfl,?_,Kept.of_below (hB.out.trans (((Kept.refl _ _).grown hgrow (fun k hk => .inr hk)).below hB.out.size (fun k hk => (hO.out.lt k hk).1))) noneB⟩
    rw [archD_eq,List.length_append,List.length_replicate];unfold OwnB;rw [show nums (putAllM (xs.map MP.m)++List.replicate 1024 0)=nums (putAllM (xs.map MP.m))++zs8 1024 by unfold nums;rw [List.map_append];simp [zs8]]
    first | exact hown | (rw [List.map_append];exact hown))
   clear hown hgrow
   go_wp2
   go_ret
   exact F.out
end Go.Proofs.YtdjedimjhogdoaaGreatDoor.Mem
end
