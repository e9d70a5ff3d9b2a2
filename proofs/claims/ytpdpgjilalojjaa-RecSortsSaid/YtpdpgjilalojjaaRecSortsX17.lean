/- Texts of this seat, merged: what the proof reaches. -/
import Derived.Test.YtpdpgjilalojjaaRecSortsX16
import Derived.BigQuiet
import Derived.Lib.SlBytesConst
namespace Go.Proofs.Ytpdpgjilalojjaa
namespace Base
end Base
namespace Bk
end Bk
namespace Block
end Block
namespace Byt
end Byt
namespace Mem
end Mem
namespace Rec
end Rec
namespace Tre
end Tre
namespace Txt
end Txt
end Go.Proofs.Ytpdpgjilalojjaa
section
namespace Go.Proofs.Ytpdpgjilalojjaa.Itm
open Go.ChangeShapes Go.WideShapes Go.ChangeAt Go.RowKit Base Byt Txt Bk Rec Block Mem Tre Go.Lib
set_option linter.unusedVariables false
set_option maxRecDepth 100000
def sumJ (ms:List ItemV):Nat:=(ms.map fun m => m.key.length+m.data.length).sum
def lightJ (ms:List ItemV):Bool:=decide (ms.length≤200) && decide (sumJ ms≤200000)
theorem sumJ_snoc (ms:List ItemV) (m:ItemV):sumJ (ms++[m])=sumJ ms+m.key.length+m.data.length:=by simp [sumJ];omega
theorem sumJ_mem {ms:List ItemV} {m:ItemV} (h:m ∈ ms):m.key.length+m.data.length≤sumJ ms:=by
 induction ms with
 | nil => cases h
 | cons x ms ih =>
   unfold sumJ at ih ⊢;rw [List.map_cons,List.sum_cons];rcases List.mem_cons.1 h with rfl | h
   ·omega
   ·have:=ih h;omega
theorem lightJ_facts {ms:List ItemV} (h:lightJ ms=true):ms.length≤200 ∧ ∀ m ∈ ms,m.key.length≤200000∧m.data.length≤200000:=by
 unfold lightJ at h;rw [Bool.and_eq_true,decide_eq_true_eq,decide_eq_true_eq] at h;exact ⟨h.1,fun m hm => by have:=sumJ_mem hm;omega⟩
set_option maxHeartbeats 4000000 in
theorem lightJ_any (p:Option Addr) (n c:Nat) (xs:List IP) (w:World) (hM:ItemsAt w p n xs) (hn:n≤140737488351232) (hR:∀ x ∈ xs,RoomI x) :
 Calls Try.prog 8 #[.slice p n c] w fun e w' => e=.returned (.bool (lightJ (xs.map IP.m)))∧Below w.heap.size w w':=by
 have HM:=Lib.hid hM;have HL:=Lib.hid hM.1;have HR:=Lib.hid hR;clear hM hR
 by_cases h200:n≤200
 ·go_enter Try.func8,Try.ntmps8
  go_wp2
  go_loopw [3,4] (fun s i wr => ∃ (k S:Nat),k≤n∧i=.int .i64 (k:Int)∧s=.int .i64 (S:Int)∧S≤k * 281474976702464∧Hid (sumJ ((xs.take k).map IP.m)=S)∧Hid (Below w.heap.size w wr)) (fun _ i _ => n - (RowKit.intOf i).toNat)
  case atStart => exact ⟨0,0,Nat.zero_le _,rfl,rfl,Nat.zero_le _,Lib.hid rfl,Lib.hid (Below.refl _ _)⟩
  case round =>
   obtain ⟨k,S,hk,rfl,rfl,hS,hE,hB⟩:=hrel
   by_cases hlt:k < n
   ·have hlx:k < xs.length:=by rw [HL.out];exact hlt
    have hT:=takeJ_succ xs k hlx;have hrm:=HR.out _ (getJ_mem xs k hlx);obtain ⟨b,o,rfl,hb,hBd,hc⟩:=(HM.out.below hB.out).cells3 hlt;obtain ⟨y,hy⟩:∃ y,xs.getD k zeroJ=y:=⟨_,rfl⟩;rw [hy] at hT hrm hBd hc;obtain ⟨c0,c1,c2⟩:=hc;have hs0:(str y.m.key).size=y.m.key.length:=str_size _;obtain ⟨kl,hkl⟩:∃ kl,y.m.key.length=kl:=⟨_,rfl⟩;obtain ⟨dl,hdl⟩:∃ dl,y.m.data.length=dl:=⟨_,rfl⟩;have hkb:kl≤140737488351232:=by rw [← hkl];exact hrm.1
    have hdb:dl≤140737488351232:=by rw [← hdl];have:=hBd.le;have:=hrm.2;omega
    rw [hkl] at hs0;rw [hdl] at c2;have HT:Hid (sumJ ((xs.take (k+1)).map IP.m)=S+kl+dl):=Lib.hid (by rw [hT,sumJ_snoc,hE.out,hkl,hdl])
    have HS2:Hid (S+kl+dl≤(k+1) * 281474976702464):=Lib.hid (by omega)
    have hltz:(k:Int) < (n:Int):=by omega
    have q1:IntKind.i64.wrap ((S:Int)+(kl:Int))=((S+kl:Nat):Int):=by rw [IntKind.wrap_i64];omega
    have q2:IntKind.i64.wrap (((S+kl:Nat):Int)+(dl:Int))=((S+kl+dl:Nat):Int):=by rw [IntKind.wrap_i64];omega
    obtain ⟨A,hA⟩:∃ A,S+kl=A:=⟨_,rfl⟩;obtain ⟨B,hB2⟩:∃ B,S+kl+dl=B:=⟨_,rfl⟩;rw [hA] at q1;rw [hB2,hA] at q2;rw [hB2] at HT HS2;clear hT hb hy hlx hrm hBd c1 hkl hdl hA hB2
    go_upto_region 5 with fail
    go_quiet (fail)
    go_wp2
    go_roundw
    case rel => exact ⟨k+1,B,by omega,by go_num,rfl,HS2.out,HT,Lib.hid (below_drewN hB.out _)⟩
    case measure => simp [RowKit.intOf];omega
   ·obtain rfl:k=n:=by omega
    have hks:¬ ((k:Int) < (k:Int)):=by omega
    have hz1:(k:Int)≤200:=by omega
    have hSS:sumJ (xs.map IP.m)=S:=by
     rw [← hE.out,List.take_of_length_le (by rw [HL.out];exact Nat.le_refl _)]
    by_cases h2:S≤200000
    ·have hz2:decide ((S:Int)≤200000)=true:=decide_eq_true (by omega)
     have E:Hid (lightJ (xs.map IP.m)=true):=Lib.hid (by unfold lightJ;rw [hSS,List.length_map,HL.out,decide_eq_true h200,decide_eq_true h2];rfl)
     clear hSS
     go_wp2
     go_ret
     exact ⟨by rw [E.out];rfl,hB.out⟩
    ·have hz2:decide ((S:Int)≤200000)=false:=decide_eq_false (by omega)
     have E:Hid (lightJ (xs.map IP.m)=false):=Lib.hid (by unfold lightJ;rw [hSS,decide_eq_false h2,Bool.and_false])
     clear hSS
     go_wp2
     go_ret
     exact ⟨by rw [E.out];rfl,hB.out⟩
 ·have E:Hid (lightJ (xs.map IP.m)=false):=Lib.hid (by unfold lightJ;rw [List.length_map,HL.out,decide_eq_false h200,Bool.false_and])
  go_enter Try.func8,Try.ntmps8
  go_wp2
  go_loopw [3,4] (fun s i wr => ∃ (k:Nat) (S:Int),k≤n∧i=.int .i64 (k:Int)∧s=.int .i64 S∧Hid (Below w.heap.size w wr)) (fun _ i _ => n - (RowKit.intOf i).toNat)
  case atStart => exact ⟨0,0,Nat.zero_le _,rfl,rfl,Lib.hid (Below.refl _ _)⟩
  case round =>
   obtain ⟨k,S,hk,rfl,rfl,hB⟩:=hrel
   by_cases hlt:k < n
   ·have hlx:k < xs.length:=by rw [HL.out];exact hlt
    obtain ⟨b,o,rfl,hb,hBd,hc⟩:=(HM.out.below hB.out).cells3 hlt;obtain ⟨y,hy⟩:∃ y,xs.getD k zeroJ=y:=⟨_,rfl⟩;rw [hy] at hBd hc;obtain ⟨c0,c1,c2⟩:=hc;have hs0:(str y.m.key).size=y.m.key.length:=str_size _;obtain ⟨kl,hkl⟩:∃ kl,y.m.key.length=kl:=⟨_,rfl⟩;obtain ⟨dl,hdl⟩:∃ dl,y.m.data.length=dl:=⟨_,rfl⟩;rw [hkl] at hs0;rw [hdl] at c2;have hltz:(k:Int) < (n:Int):=by omega
    obtain ⟨A,hA⟩:∃ A,IntKind.i64.wrap (S+(kl:Int))=A:=⟨_,rfl⟩;obtain ⟨B,hB2⟩:∃ B,IntKind.i64.wrap (A+(dl:Int))=B:=⟨_,rfl⟩;clear hb hy hlx hBd c1 hkl hdl
    go_upto_region 5 with fail
    go_quiet (fail)
    go_wp2
    go_roundw
    case rel => exact ⟨k+1,B,by omega,by go_num,rfl,Lib.hid (below_drewN hB.out _)⟩
    case measure => simp [RowKit.intOf];omega
   ·obtain rfl:k=n:=by omega
    have hks:¬ ((k:Int) < (k:Int)):=by omega
    have hz1:¬ ((k:Int)≤200):=by omega
    go_wp2
    go_ret
    exact ⟨by rw [E.out];rfl,hB.out⟩
def oneI:ItemV:=⟨[107],7,[100]⟩
theorem may_one:mayI oneI=true:=by decide
theorem bytes_one:(bytesI oneI).length=18:=by rw [bytesI_length];rfl
def aI:ItemV:=⟨[97],0,[]⟩
theorem begins_one:beginsI (bytesI oneI)=(oneI,18,true):=by
 have h:=begins_bytes may_one [];rw [List.append_nil,bytes_one] at h;exact h
theorem dat_a (w:World):DatAt w ⟨aI,none,0⟩:=⟨fun h => absurd h (by decide),Nat.le_refl _,by show (0:Nat)≤maxLen;decide⟩
set_option maxHeartbeats 4000000 in
theorem ans13_any (H:ItmC4) (w:World) :
 Calls Try.prog 9 #[] w fun e w' => e=.returned (.bool true)∧Below w.heap.size w w':=by
 have kc:(convert 22 22 (.slice (some ⟨w.heap.size,0,none⟩) 1 1)).run Try.prog (w.alloc (.cells #[.int .u8 100] 5))=.ok (.slice (some ⟨w.heap.size,0,none⟩) 1 1) (w.alloc (.cells #[.int .u8 100] 5 (1,2))):=
  Lib.run_convert_bytes_const (P:=Try.prog) w 22 5 #[.int .u8 100] 1 1 Try.underlying22 Try.underlying5
 obtain ⟨W1,hW1⟩:∃ W1,(w.alloc (.cells #[.int .u8 100] 5 (1,2))).alloc (.cells #[.string ⟨#[107]⟩,.int .i64 7,.slice (some ⟨w.heap.size,0,none⟩) 1 1] 24)=W1:=⟨_,rfl⟩;have hB1:Below w.heap.size w W1:=by rw [← hW1];exact ((Below.refl _ w).alloc (Nat.le_refl _) _).alloc (by simp) _
 have hb1:Blk W1 (w.heap.size+1) 24 #[.string ⟨#[107]⟩,.int .i64 7,.slice (some ⟨w.heap.size,0,none⟩) 1 1]:=by
  have:=Blk.new (w.alloc (.cells #[.int .u8 100] 5 (1,2))) 24 #[.string ⟨#[107]⟩,.int .i64 7,.slice (some ⟨w.heap.size,0,none⟩) 1 1];rw [World.size_alloc] at this;rw [← hW1];exact this
 have ht1:BAt W1 (some ⟨w.heap.size,0,none⟩) 1 [100]:=fun _ => ⟨w.heap.size,0,rfl,fun i hi => by
  obtain rfl:i=0:=by omega
  rw [← hW1]
  have:(w.alloc (.cells #[.int .u8 100] 5 (1,2))).cell? ⟨w.heap.size,0,none⟩=some (.int .u8 100):=by
   unfold World.cell?;rw [heap_alloc_new];rfl
  exact (((Below.refl (w.heap.size+1) (w.alloc (.cells #[.int .u8 100] 5 (1,2)))).alloc (by simp) _).cell (p:=⟨w.heap.size,0,none⟩) (by show w.heap.size < w.heap.size+1;omega)).trans this⟩
 have hdx:DatAt W1 ⟨oneI,some ⟨w.heap.size,0,none⟩,1⟩:=⟨ht1,by show (1:Nat)≤1;decide,by show (1:Nat)≤maxLen;decide⟩
 have hp1:=H.put W1 ⟨oneI,some ⟨w.heap.size,0,none⟩,1⟩ hdx (by show (Lit.int .i64 7).wf=true;decide) (by show (1:Nat)≤_;decide) (by show (1:Nat)≤_;decide)
 unfold PutIPost at hp1
 dsimp only at hp1
 rw [bytes_one] at hp1;have HP1:=Lib.hid hp1;have HC:=Lib.hid H;have HW1:=Lib.hid hW1;have HB1:=Lib.hid hB1;have HX:=Lib.hid hb1;have HDX:=Lib.hid hdx;clear hW1 hB1 hb1 ht1 hp1 H hdx
 go_enter Try.func9,Try.ntmps9
 go_upto_region 2 with fail
 rw [HW1.out];have c0:=HX.out.cell 0;have c1:=HX.out.cell 1;have c2:=HX.out.cell 2;simp only [List.getElem?_toArray,List.getElem?_cons_zero,List.getElem?_cons_succ] at c0 c1 c2
 go_wp2_with fail
 refine HP1.out.mono ?_
 rintro e w2 (⟨_,p2,c2,rfl,hle2,hmx2,hbt2,hb2⟩ | ⟨hf,_⟩)
 rotate_left
 ·exact absurd may_one (by rw [hf];decide)
 have HB2:=Lib.hid (HB1.out.trans (hb2.mono HB1.out.size));have hg:=HC.out.get w2 p2 18 c2 (bytesI oneI) hbt2 bytes_one hle2 hmx2 (by decide)
 unfold GetIPost at hg;rw [begins_one] at hg;have HG:Hid (Calls Try.prog 12 #[.slice p2 18 c2] w2 fun e w' => ∃ q d,e=.returned (.tuple #[.agg #[.string ⟨#[107]⟩,.int .i64 7,.slice q 1 d],.int .i64 18,.bool true])∧DatAt w' ⟨oneI,q,d⟩∧Below w2.heap.size w2 w'):=Lib.hid hg
 have HX2:=Lib.hid (HX.out.below hb2 HX.out.lt);have HDX2:=Lib.hid (HDX.out.below hb2);clear hle2 hmx2 hbt2 hb2 hg HP1 HW1 kc c0 c1
 go_wp2_with fail
 refine HG.out.mono ?_
 rintro e w3 ⟨q3,d3,rfl,hd3,hb3⟩;obtain ⟨W4,hW4⟩:∃ W4,w3.alloc (.cells #[.string ⟨#[107]⟩,.int .i64 7,.slice q3 1 d3] 24)=W4:=⟨_,rfl⟩;have h34:Below w3.heap.size w3 W4:=by rw [← hW4];exact (Below.refl _ _).alloc (Nat.le_refl _) _
 have hY4:Blk W4 w3.heap.size 24 #[.string ⟨#[107]⟩,.int .i64 7,.slice q3 1 d3]:=by rw [← hW4];exact Blk.new w3 _ _
 have hX3:=HX2.out.below hb3 HX2.out.lt
 have HBY:Hid (∀ w',Below W4.heap.size W4 w' → Blk w' (w.heap.size+1) 24 #[.string ⟨#[107]⟩,.int .i64 7,.slice (some ⟨w.heap.size,0,none⟩) 1 1]∧Blk w' w3.heap.size 24 #[.string ⟨#[107]⟩,.int .i64 7,.slice q3 1 d3]∧DatAt w' ⟨oneI,some ⟨w.heap.size,0,none⟩,1⟩∧DatAt w' ⟨oneI,q3,d3⟩):=Lib.hid (fun w' h => by
  have hX4:=hX3.below h34 hX3.lt
  exact ⟨hX4.below h hX4.lt,hY4.below h hY4.lt,((HDX2.out.below hb3).below h34).below h,(hd3.below h34).below h⟩)
 have HB4:=Lib.hid ((HB2.out.trans (hb3.mono HB2.out.size)).trans (h34.mono (by have:=hb3.size;have:=HB2.out.size;omega)))
 clear hd3 hb3 h34 hY4 hX3
 go_upto_region 4 with fail
 clear hW4;have k:=HBY.out W4 (Below.refl _ _);have c0:=k.1.cell 0;have c1:=k.1.cell 1;have c2:=k.1.cell 2;have d0:=k.2.1.cell 0;have d1:=k.2.1.cell 1;have d2:=k.2.1.cell 2;simp only [List.getElem?_toArray,List.getElem?_cons_zero,List.getElem?_cons_succ] at c0 c1 c2 d0 d1 d2;have hs:=HC.out.same W4 ⟨oneI,some ⟨w.heap.size,0,none⟩,1⟩ ⟨oneI,q3,d3⟩ k.2.2.1 k.2.2.2
 dsimp only at hs
 rw [show decide (oneI=oneI)=true from rfl] at hs
 have HS:=Lib.hid hs;clear k hs
 go_wp2_with fail
 refine HS.out.mono ?_
 rintro e w5 ⟨rfl,hb5⟩;clear c0 c1 c2 d0 d1 d2;have k:=HBY.out w5 hb5;have c0:=k.1.cell 0;have c1:=k.1.cell 1;have c2:=k.1.cell 2;simp only [List.getElem?_toArray,List.getElem?_cons_zero,List.getElem?_cons_succ] at c0 c1 c2;have hs:=HC.out.less w5 ⟨aI,none,0⟩ ⟨oneI,some ⟨w.heap.size,0,none⟩,1⟩ (dat_a _) k.2.2.1
 dsimp only at hs
 rw [show lessI aI oneI=true by decide] at hs
 have HS2:=Lib.hid hs;have HB5:=Lib.hid hb5;clear k hs hb5 HS
 go_wp2_with fail
 refine HS2.out.mono ?_
 rintro e w6 ⟨rfl,hb6⟩;clear c0 c1 c2;have HB6:=Lib.hid (HB5.out.trans (hb6.mono HB5.out.size));have k:=HBY.out w6 HB6.out;have c0:=k.1.cell 0;have c1:=k.1.cell 1;have c2:=k.1.cell 2;simp only [List.getElem?_toArray,List.getElem?_cons_zero,List.getElem?_cons_succ] at c0 c1 c2;have hs:=HC.out.less w6 ⟨oneI,some ⟨w.heap.size,0,none⟩,1⟩ ⟨oneI,some ⟨w.heap.size,0,none⟩,1⟩ k.2.2.1 k.2.2.1
 dsimp only at hs
 rw [show lessI oneI oneI=false by decide] at hs
 have HS3:=Lib.hid hs;clear k hs hb6 HS2
 go_wp2_with fail
 refine HS3.out.mono ?_
 rintro e w7 ⟨rfl,hb7⟩;have HB7:=Lib.hid (HB4.out.trans ((HB6.out.trans (hb7.mono HB6.out.size)).mono HB4.out.size));clear hb7 c0 c1 c2
 go_wp2
 go_ret
 exact ⟨rfl,HB7.out⟩
end Go.Proofs.Ytpdpgjilalojjaa.Itm
end
