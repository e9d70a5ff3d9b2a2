/- Texts of this seat, merged: what the proof reaches. -/
import Derived.Test.YtpdpgjilalojjaaRecOrdersX16
import Derived.BigQuiet
import Derived.Lib.SlBytesConst
import Derived.Test.YtpdpgjilalojjaaRecOrdersX15
import Derived.Test.YtpdpgjilalojjaaRecOrdersX4
namespace Go.Proofs.Ytpdpgjilalojjaa
namespace Base
end Base
namespace Bk
end Bk
namespace Block
end Block
namespace Byt
end Byt
namespace Itm
end Itm
namespace Mem
end Mem
namespace Rec
end Rec
namespace Tre
end Tre
namespace Txt
end Txt
end Go.Proofs.Ytpdpgjilalojjaa
section
namespace Go.Proofs.Ytpdpgjilalojjaa.Itm
open Go.ChangeShapes Go.WideShapes Go.ChangeAt Go.RowKit Base Byt Txt Bk Rec Block Mem Tre Go.Lib
set_option linter.unusedVariables false
set_option maxRecDepth 100000
def sumJ (ms:List ItemV):Nat:=(ms.map fun m => m.key.length+m.data.length).sum
def lightJ (ms:List ItemV):Bool:=decide (ms.length≤200) && decide (sumJ ms≤200000)
theorem sumJ_snoc (ms:List ItemV) (m:ItemV):sumJ (ms++[m])=sumJ ms+m.key.length+m.data.length:=by simp [sumJ];omega
set_option maxHeartbeats 4000000 in
theorem lightJ_any (p:Option Addr) (n c:Nat) (xs:List IP) (w:World) (hM:ItemsAt w p n xs) (hn:n≤140737488351232) (hR:∀ x ∈ xs,RoomI x) :
 Calls Try.prog 8 #[.slice p n c] w fun e w' => e=.returned (.bool (lightJ (xs.map IP.m)))∧Below w.heap.size w w':=by
 have HM:=Lib.hid hM;have HL:=Lib.hid hM.1;have HR:=Lib.hid hR;clear hM hR
 by_cases h200:n≤200
 ·go_enter Try.func8,Try.ntmps8
  go_wp2
  go_loopw [3,4] (fun s i wr => ∃ (k S:Nat),k≤n∧i=.int .i64 (k:Int)∧s=.int .i64 (S:Int)∧S≤k * 281474976702464∧Hid (sumJ ((xs.take k).map IP.m)=S)∧Hid (Below w.heap.size w wr)) (fun _ i _ => n - (RowKit.intOf i).toNat)
  case atStart => exact ⟨0,0,Nat.zero_le _,rfl,rfl,Nat.zero_le _,Lib.hid rfl,Lib.hid (Below.refl _ _)⟩
  case round =>
   obtain ⟨k,S,hk,rfl,rfl,hS,hE,hB⟩:=hrel
   by_cases hlt:k < n
   ·have hlx:k < xs.length:=by rw [HL.out];exact hlt
    have hT:=takeJ_succ xs k hlx;have hrm:=HR.out _ (getJ_mem xs k hlx);obtain ⟨b,o,rfl,hb,hBd,hc⟩:=(HM.out.below hB.out).cells3 hlt;obtain ⟨y,hy⟩:∃ y,xs.getD k zeroJ=y:=⟨_,rfl⟩;rw [hy] at hT hrm hBd hc;obtain ⟨c0,c1,c2⟩:=hc;have hs0:(str y.m.key).size=y.m.key.length:=str_size _;obtain ⟨kl,hkl⟩:∃ kl,y.m.key.length=kl:=⟨_,rfl⟩;obtain ⟨dl,hdl⟩:∃ dl,y.m.data.length=dl:=⟨_,rfl⟩;have hkb:kl≤140737488351232:=by rw [← hkl];exact hrm.1
    have hdb:dl≤140737488351232:=by rw [← hdl];have:=hBd.le;have:=hrm.2;omega
    rw [hkl] at hs0;rw [hdl] at c2;have HT:Hid (sumJ ((xs.take (k+1)).map IP.m)=S+kl+dl):=Lib.hid (by rw [hT,sumJ_snoc,hE.out,hkl,hdl])
    have HS2:Hid (S+kl+dl≤(k+1) * 281474976702464):=Lib.hid (by omega)
    have hltz:(k:Int) < (n:Int):=by omega
    have q1:IntKind.i64.wrap ((S:Int)+(kl:Int))=((S+kl:Nat):Int):=by rw [IntKind.wrap_i64];omega
    have q2:IntKind.i64.wrap (((S+kl:Nat):Int)+(dl:Int))=((S+kl+dl:Nat):Int):=by rw [IntKind.wrap_i64];omega
    obtain ⟨A,hA⟩:∃ A,S+kl=A:=⟨_,rfl⟩;obtain ⟨B,hB2⟩:∃ B,S+kl+dl=B:=⟨_,rfl⟩;rw [hA] at q1;rw [hB2,hA] at q2;rw [hB2] at HT HS2;clear hT hb hy hlx hrm hBd c1 hkl hdl hA hB2
    go_upto_region 5 with fail
    go_quiet (fail)
    go_wp2
    go_roundw
    case rel => exact ⟨k+1,B,by omega,by go_num,rfl,HS2.out,HT,Lib.hid (below_drewN hB.out _)⟩
    case measure => simp [RowKit.intOf];omega
   ·obtain rfl:k=n:=by omega
    have hks:¬ ((k:Int) < (k:Int)):=by omega
    have hz1:(k:Int)≤200:=by omega
    have hSS:sumJ (xs.map IP.m)=S:=by
     rw [← hE.out,List.take_of_length_le (by rw [HL.out];exact Nat.le_refl _)]
    by_cases h2:S≤200000
    ·have hz2:decide ((S:Int)≤200000)=true:=decide_eq_true (by omega)
     have E:Hid (lightJ (xs.map IP.m)=true):=Lib.hid (by unfold lightJ;rw [hSS,List.length_map,HL.out,decide_eq_true h200,decide_eq_true h2];rfl)
     clear hSS
     go_wp2
     go_ret
     exact ⟨by rw [E.out];rfl,hB.out⟩
    ·have hz2:decide ((S:Int)≤200000)=false:=decide_eq_false (by omega)
     have E:Hid (lightJ (xs.map IP.m)=false):=Lib.hid (by unfold lightJ;rw [hSS,decide_eq_false h2,Bool.and_false])
     clear hSS
     go_wp2
     go_ret
     exact ⟨by rw [E.out];rfl,hB.out⟩
 ·have E:Hid (lightJ (xs.map IP.m)=false):=Lib.hid (by unfold lightJ;rw [List.length_map,HL.out,decide_eq_false h200,Bool.false_and])
  go_enter Try.func8,Try.ntmps8
  go_wp2
  go_loopw [3,4] (fun s i wr => ∃ (k:Nat) (S:Int),k≤n∧i=.int .i64 (k:Int)∧s=.int .i64 S∧Hid (Below w.heap.size w wr)) (fun _ i _ => n - (RowKit.intOf i).toNat)
  case atStart => exact ⟨0,0,Nat.zero_le _,rfl,rfl,Lib.hid (Below.refl _ _)⟩
  case round =>
   obtain ⟨k,S,hk,rfl,rfl,hB⟩:=hrel
   by_cases hlt:k < n
   ·have hlx:k < xs.length:=by rw [HL.out];exact hlt
    obtain ⟨b,o,rfl,hb,hBd,hc⟩:=(HM.out.below hB.out).cells3 hlt;obtain ⟨y,hy⟩:∃ y,xs.getD k zeroJ=y:=⟨_,rfl⟩;rw [hy] at hBd hc;obtain ⟨c0,c1,c2⟩:=hc;have hs0:(str y.m.key).size=y.m.key.length:=str_size _;obtain ⟨kl,hkl⟩:∃ kl,y.m.key.length=kl:=⟨_,rfl⟩;obtain ⟨dl,hdl⟩:∃ dl,y.m.data.length=dl:=⟨_,rfl⟩;rw [hkl] at hs0;rw [hdl] at c2;have hltz:(k:Int) < (n:Int):=by omega
    obtain ⟨A,hA⟩:∃ A,IntKind.i64.wrap (S+(kl:Int))=A:=⟨_,rfl⟩;obtain ⟨B,hB2⟩:∃ B,IntKind.i64.wrap (A+(dl:Int))=B:=⟨_,rfl⟩;clear hb hy hlx hBd c1 hkl hdl
    go_upto_region 5 with fail
    go_quiet (fail)
    go_wp2
    go_roundw
    case rel => exact ⟨k+1,B,by omega,by go_num,rfl,Lib.hid (below_drewN hB.out _)⟩
    case measure => simp [RowKit.intOf];omega
   ·obtain rfl:k=n:=by omega
    have hks:¬ ((k:Int) < (k:Int)):=by omega
    have hz1:¬ ((k:Int)≤200):=by omega
    go_wp2
    go_ret
    exact ⟨by rw [E.out];rfl,hB.out⟩
def oneI:ItemV:=⟨[107],7,[100]⟩
theorem may_one:mayI oneI=true:=by decide
theorem bytes_one:(bytesI oneI).length=18:=by rw [bytesI_length];rfl
def aI:ItemV:=⟨[97],0,[]⟩
theorem begins_one:beginsI (bytesI oneI)=(oneI,18,true):=by
 have h:=begins_bytes may_one [];rw [List.append_nil,bytes_one] at h;exact h
theorem dat_a (w:World):DatAt w ⟨aI,none,0⟩:=⟨fun h => absurd h (by decide),Nat.le_refl _,by show (0:Nat)≤maxLen;decide⟩
set_option maxHeartbeats 4000000 in
theorem ans13_any (H:ItmC4) (w:World) :
 Calls Try.prog 9 #[] w fun e w' => e=.returned (.bool true)∧Below w.heap.size w w':=by
 have kc:(convert 22 22 (.slice (some ⟨w.heap.size,0,none⟩) 1 1)).run Try.prog (w.alloc (.cells #[.int .u8 100] 5))=.ok (.slice (some ⟨w.heap.size,0,none⟩) 1 1) (w.alloc (.cells #[.int .u8 100] 5 (1,2))):=
  Lib.run_convert_bytes_const (P:=Try.prog) w 22 5 #[.int .u8 100] 1 1 Try.underlying22 Try.underlying5
 obtain ⟨W1,hW1⟩:∃ W1,(w.alloc (.cells #[.int .u8 100] 5 (1,2))).alloc (.cells #[.string ⟨#[107]⟩,.int .i64 7,.slice (some ⟨w.heap.size,0,none⟩) 1 1] 24)=W1:=⟨_,rfl⟩;have hB1:Below w.heap.size w W1:=by rw [← hW1];exact ((Below.refl _ w).alloc (Nat.le_refl _) _).alloc (by simp) _
 have hb1:Blk W1 (w.heap.size+1) 24 #[.string ⟨#[107]⟩,.int .i64 7,.slice (some ⟨w.heap.size,0,none⟩) 1 1]:=by
  have:=Blk.new (w.alloc (.cells #[.int .u8 100] 5 (1,2))) 24 #[.string ⟨#[107]⟩,.int .i64 7,.slice (some ⟨w.heap.size,0,none⟩) 1 1];rw [World.size_alloc] at this;rw [← hW1];exact this
 have ht1:BAt W1 (some ⟨w.heap.size,0,none⟩) 1 [100]:=fun _ => ⟨w.heap.size,0,rfl,fun i hi => by
  obtain rfl:i=0:=by omega
  rw [← hW1]
  have:(w.alloc (.cells #[.int .u8 100] 5 (1,2))).cell? ⟨w.heap.size,0,none⟩=some (.int .u8 100):=by
   unfold World.cell?;rw [heap_alloc_new];rfl
  exact (((Below.refl (w.heap.size+1) (w.alloc (.cells #[.int .u8 100] 5 (1,2)))).alloc (by simp) _).cell (p:=⟨w.heap.size,0,none⟩) (by show w.heap.size < w.heap.size+1;omega)).trans this⟩
 have hdx:DatAt W1 ⟨oneI,some ⟨w.heap.size,0,none⟩,1⟩:=⟨ht1,by show (1:Nat)≤1;decide,by show (1:Nat)≤maxLen;decide⟩
 have hp1:=H.put W1 ⟨oneI,some ⟨w.heap.size,0,none⟩,1⟩ hdx (by show (Lit.int .i64 7).wf=true;decide) (by show (1:Nat)≤_;decide) (by show (1:Nat)≤_;decide)
 unfold PutIPost at hp1
 dsimp only at hp1
 rw [bytes_one] at hp1;have HP1:=Lib.hid hp1;have HC:=Lib.hid H;have HW1:=Lib.hid hW1;have HB1:=Lib.hid hB1;have HX:=Lib.hid hb1;have HDX:=Lib.hid hdx;clear hW1 hB1 hb1 ht1 hp1 H hdx
 go_enter Try.func9,Try.ntmps9
 go_upto_region 2 with fail
 rw [HW1.out];have c0:=HX.out.cell 0;have c1:=HX.out.cell 1;have c2:=HX.out.cell 2;simp only [List.getElem?_toArray,List.getElem?_cons_zero,List.getElem?_cons_succ] at c0 c1 c2
 go_wp2_with fail
 refine HP1.out.mono ?_
 rintro e w2 (⟨_,p2,c2,rfl,hle2,hmx2,hbt2,hb2⟩ | ⟨hf,_⟩)
 rotate_left
 ·exact absurd may_one (by rw [hf];decide)
 have HB2:=Lib.hid (HB1.out.trans (hb2.mono HB1.out.size));have hg:=HC.out.get w2 p2 18 c2 (bytesI oneI) hbt2 bytes_one hle2 hmx2 (by decide)
 unfold GetIPost at hg;rw [begins_one] at hg;have HG:Hid (Calls Try.prog 12 #[.slice p2 18 c2] w2 fun e w' => ∃ q d,e=.returned (.tuple #[.agg #[.string ⟨#[107]⟩,.int .i64 7,.slice q 1 d],.int .i64 18,.bool true])∧DatAt w' ⟨oneI,q,d⟩∧Below w2.heap.size w2 w'):=Lib.hid hg
 have HX2:=Lib.hid (HX.out.below hb2 HX.out.lt);have HDX2:=Lib.hid (HDX.out.below hb2);clear hle2 hmx2 hbt2 hb2 hg HP1 HW1 kc c0 c1
 go_wp2_with fail
 refine HG.out.mono ?_
 rintro e w3 ⟨q3,d3,rfl,hd3,hb3⟩;obtain ⟨W4,hW4⟩:∃ W4,w3.alloc (.cells #[.string ⟨#[107]⟩,.int .i64 7,.slice q3 1 d3] 24)=W4:=⟨_,rfl⟩;have h34:Below w3.heap.size w3 W4:=by rw [← hW4];exact (Below.refl _ _).alloc (Nat.le_refl _) _
 have hY4:Blk W4 w3.heap.size 24 #[.string ⟨#[107]⟩,.int .i64 7,.slice q3 1 d3]:=by rw [← hW4];exact Blk.new w3 _ _
 have hX3:=HX2.out.below hb3 HX2.out.lt
 have HBY:Hid (∀ w',Below W4.heap.size W4 w' → Blk w' (w.heap.size+1) 24 #[.string ⟨#[107]⟩,.int .i64 7,.slice (some ⟨w.heap.size,0,none⟩) 1 1]∧Blk w' w3.heap.size 24 #[.string ⟨#[107]⟩,.int .i64 7,.slice q3 1 d3]∧DatAt w' ⟨oneI,some ⟨w.heap.size,0,none⟩,1⟩∧DatAt w' ⟨oneI,q3,d3⟩):=Lib.hid (fun w' h => by
  have hX4:=hX3.below h34 hX3.lt
  exact ⟨hX4.below h hX4.lt,hY4.below h hY4.lt,((HDX2.out.below hb3).below h34).below h,(hd3.below h34).below h⟩)
 have HB4:=Lib.hid ((HB2.out.trans (hb3.mono HB2.out.size)).trans (h34.mono (by have:=hb3.size;have:=HB2.out.size;omega)))
 clear hd3 hb3 h34 hY4 hX3
 go_upto_region 4 with fail
 clear hW4;have k:=HBY.out W4 (Below.refl _ _);have c0:=k.1.cell 0;have c1:=k.1.cell 1;have c2:=k.1.cell 2;have d0:=k.2.1.cell 0;have d1:=k.2.1.cell 1;have d2:=k.2.1.cell 2;simp only [List.getElem?_toArray,List.getElem?_cons_zero,List.getElem?_cons_succ] at c0 c1 c2 d0 d1 d2;have hs:=HC.out.same W4 ⟨oneI,some ⟨w.heap.size,0,none⟩,1⟩ ⟨oneI,q3,d3⟩ k.2.2.1 k.2.2.2
 dsimp only at hs
 rw [show decide (oneI=oneI)=true from rfl] at hs
 have HS:=Lib.hid hs;clear k hs
 go_wp2_with fail
 refine HS.out.mono ?_
 rintro e w5 ⟨rfl,hb5⟩;clear c0 c1 c2 d0 d1 d2;have k:=HBY.out w5 hb5;have c0:=k.1.cell 0;have c1:=k.1.cell 1;have c2:=k.1.cell 2;simp only [List.getElem?_toArray,List.getElem?_cons_zero,List.getElem?_cons_succ] at c0 c1 c2;have hs:=HC.out.less w5 ⟨aI,none,0⟩ ⟨oneI,some ⟨w.heap.size,0,none⟩,1⟩ (dat_a _) k.2.2.1
 dsimp only at hs
 rw [show lessI aI oneI=true by decide] at hs
 have HS2:=Lib.hid hs;have HB5:=Lib.hid hb5;clear k hs hb5 HS
 go_wp2_with fail
 refine HS2.out.mono ?_
 rintro e w6 ⟨rfl,hb6⟩;clear c0 c1 c2;have HB6:=Lib.hid (HB5.out.trans (hb6.mono HB5.out.size));have k:=HBY.out w6 HB6.out;have c0:=k.1.cell 0;have c1:=k.1.cell 1;have c2:=k.1.cell 2;simp only [List.getElem?_toArray,List.getElem?_cons_zero,List.getElem?_cons_succ] at c0 c1 c2;have hs:=HC.out.less w6 ⟨oneI,some ⟨w.heap.size,0,none⟩,1⟩ ⟨oneI,some ⟨w.heap.size,0,none⟩,1⟩ k.2.2.1 k.2.2.1
 dsimp only at hs
 rw [show lessI oneI oneI=false by decide] at hs
 have HS3:=Lib.hid hs;clear k hs hb6 HS2
 go_wp2_with fail
 refine HS3.out.mono ?_
 rintro e w7 ⟨rfl,hb7⟩;have HB7:=Lib.hid (HB4.out.trans ((HB6.out.trans (hb7.mono HB6.out.size)).mono HB4.out.size));clear hb7 c0 c1 c2
 go_wp2
 go_ret
 exact ⟨rfl,HB7.out⟩
end Go.Proofs.Ytpdpgjilalojjaa.Itm
end
section
namespace Go.Proofs.Ytpdpgjilalojjaa.Walk
open Go.ChangeShapes Go.WideShapes Go.ChangeAt Go.RowKit Base Byt Txt Bk Rec Block Mem Tre Itm Go.Lib
set_option linter.unusedVariables false
set_option maxRecDepth 100000
attribute [local irreducible] wpQuiet
theorem items_blk {w:World} {g:Nat} {xs:List IP} (h:Blk w g 24 (flatJ xs).toArray) (hb:∀ x ∈ xs,DatAt w x):ItemsAt w (some ⟨g,0,none⟩) xs.length xs:=
 Ri.items ⟨_,h,by rw [List.size_toArray,flatJ_length];exact Nat.le_refl _,fun i hi j hj => by rw [List.getElem?_toArray];exact flatJ_get xs i hi j hj⟩ hb
structure OrdF (w5:World) (x y z:IP) (A B C D E:Bool):Prop where
 c1:∀ p:Since w5,Calls Try.prog 16 #[.agg #[.string (str x.m.key),.int .i64 x.m.seq,.slice x.p x.m.data.length x.c],.agg #[.string (str y.m.key),.int .i64 y.m.seq,.slice y.p y.m.data.length y.c]] p.w' fun e w' => e=.returned (.bool A)∧Below p.w'.heap.size p.w' w'
 c2:∀ p:Since w5,Calls Try.prog 16 #[.agg #[.string (str y.m.key),.int .i64 y.m.seq,.slice y.p y.m.data.length y.c],.agg #[.string (str x.m.key),.int .i64 x.m.seq,.slice x.p x.m.data.length x.c]] p.w' fun e w' => e=.returned (.bool B)∧Below p.w'.heap.size p.w' w'
 c3:∀ p:Since w5,Calls Try.prog 16 #[.agg #[.string (str y.m.key),.int .i64 y.m.seq,.slice y.p y.m.data.length y.c],.agg #[.string (str z.m.key),.int .i64 z.m.seq,.slice z.p z.m.data.length z.c]] p.w' fun e w' => e=.returned (.bool C)∧Below p.w'.heap.size p.w' w'
 c4:∀ p:Since w5,Calls Try.prog 16 #[.agg #[.string (str x.m.key),.int .i64 x.m.seq,.slice x.p x.m.data.length x.c],.agg #[.string (str z.m.key),.int .i64 z.m.seq,.slice z.p z.m.data.length z.c]] p.w' fun e w' => e=.returned (.bool D)∧Below p.w'.heap.size p.w' w'
 c5:∀ p:Since w5,Calls Try.prog 17 #[.agg #[.string (str x.m.key),.int .i64 x.m.seq,.slice x.p x.m.data.length x.c],.agg #[.string (str y.m.key),.int .i64 y.m.seq,.slice y.p y.m.data.length y.c]] p.w' fun e w' => e=.returned (.bool A)∧Below p.w'.heap.size p.w' w'
 c6:∀ p:Since w5,Calls Try.prog 18 #[.agg #[.string (str x.m.key),.int .i64 x.m.seq,.slice x.p x.m.data.length x.c],.agg #[.string (str y.m.key),.int .i64 y.m.seq,.slice y.p y.m.data.length y.c]] p.w' fun e w' => e=.returned (.bool E)∧Below p.w'.heap.size p.w' w'
 c7:∀ p:Since w5,Calls Try.prog 14 #[.agg #[.string (str x.m.key),.int .i64 x.m.seq,.slice x.p x.m.data.length x.c],.agg #[.string (str y.m.key),.int .i64 y.m.seq,.slice y.p y.m.data.length y.c]] p.w' fun e w' => e=.returned (.bool E)∧Below p.w'.heap.size p.w' w'
 c8:∀ p:Since w5,Calls Try.prog 9 #[] p.w' fun e w' => e=.returned (.bool true)∧Below p.w'.heap.size p.w' w'
end Go.Proofs.Ytpdpgjilalojjaa.Walk
end
section
namespace Go.Proofs.Ytpdpgjilalojjaa.Walk
open Go.ChangeShapes Go.WideShapes Go.ChangeAt Go.RowKit Base Byt Txt Bk Rec Block Mem Tre Itm Go.Lib
set_option linter.unusedVariables false
set_option maxRecDepth 100000
attribute [local irreducible] wpQuiet
set_option maxHeartbeats 8000000 in
theorem recOrders_1 (H:ItmC4) (x y z:IP) (w:World) (ba0:DatAt w x) (wi0:WfI x.m) (ri0:RoomI x) (ba1:DatAt w y) (wi1:WfI y.m) (ri1:RoomI y) (ba2:DatAt w z) (wi2:WfI z.m) (ri2:RoomI z) (hk:lessI x.m y.m=true∧lessI y.m x.m=false∧lessI y.m z.m=true∧lessI x.m z.m=true) :
 Calls Try.prog 5 #[.agg x.cs,.agg y.cs,.agg z.cs] w fun e w' => e=.returned (.bool true)∧Below w.heap.size w w':=by
 have HK:=Lib.hid hk;clear hk;obtain ⟨W1,hW1⟩:∃ W1,w.alloc (.cells x.cs 24)=W1:=⟨_,rfl⟩;have b1:Below w.heap.size w W1:=by rw [← hW1];exact (Below.refl _ _).alloc (Nat.le_refl _) _
 have x1:Blk W1 w.heap.size 24 x.cs:=by rw [← hW1];exact Blk.new w _ _
 obtain ⟨W2,hW2⟩:∃ W2,W1.alloc (.cells y.cs 24)=W2:=⟨_,rfl⟩;have b2:Below W1.heap.size W1 W2:=by rw [← hW2];exact (Below.refl _ _).alloc (Nat.le_refl _) _
 have y2:Blk W2 W1.heap.size 24 y.cs:=by rw [← hW2];exact Blk.new W1 _ _
 obtain ⟨W3,hW3⟩:∃ W3,W2.alloc (.cells z.cs 24)=W3:=⟨_,rfl⟩;have b3:Below W2.heap.size W2 W3:=by rw [← hW3];exact (Below.refl _ _).alloc (Nat.le_refl _) _
 have z3:Blk W3 W2.heap.size 24 z.cs:=by rw [← hW3];exact Blk.new W2 _ _
 obtain ⟨W4,hW4⟩:∃ W4,W3.alloc (.cells (flatJ [x,y,z]).toArray 24)=W4:=⟨_,rfl⟩;have b4:Below W3.heap.size W3 W4:=by rw [← hW4];exact (Below.refl _ _).alloc (Nat.le_refl _) _
 have r4:Blk W4 W3.heap.size 24 (flatJ [x,y,z]).toArray:=by rw [← hW4];exact Blk.new W3 _ _
 have b13:Below w.heap.size w W3:=(b1.trans (b2.mono b1.size)).trans (b3.mono (by have:=b1.size;have:=b2.size;omega))
 have b14:Below w.heap.size w W4:=b13.trans (b4.mono b13.size);have x3:Blk W3 w.heap.size 24 x.cs:=(x1.below b2 x1.lt).below b3 (x1.below b2 x1.lt).lt;have y3:Blk W3 W1.heap.size 24 y.cs:=y2.below b3 y2.lt
 have HL:=Lib.hid (lightJ_any (some ⟨W3.heap.size,0,none⟩) 3 3 [x,y,z] W4 (items_blk r4 (fun u hu => by
  simp only [List.mem_cons,List.not_mem_nil,or_false] at hu;rcases hu with rfl | rfl | rfl
  ·exact ba0.below b14
  ·exact ba1.below b14
  ·exact ba2.below b14)) (by decide) (fun u hu => by
  simp only [List.mem_cons,List.not_mem_nil,or_false] at hu;rcases hu with rfl | rfl | rfl
  ·exact ri0
  ·exact ri1
  ·exact ri2))
 have HC:=Lib.hid H
 have HBY:Hid (∀ w',Below W4.heap.size W4 w' → Blk w' w.heap.size 24 x.cs∧Blk w' W1.heap.size 24 y.cs∧Blk w' W2.heap.size 24 z.cs∧DatAt w' x∧DatAt w' y∧DatAt w' z):=Lib.hid (fun w' h => by
  have x4:=x3.below b4 x3.lt;have y4:=y3.below b4 y3.lt;have z4:=z3.below b4 z3.lt
  exact ⟨x4.below h x4.lt,y4.below h y4.lt,z4.below h z4.lt,(ba0.below b14).below h,(ba1.below b14).below h,(ba2.below b14).below h⟩)
 have HB4:=Lib.hid b14;have c0:=x3.cell 0;have c1:=x3.cell 1;have c2:=x3.cell 2;have d0:=y3.cell 0;have d1:=y3.cell 1;have d2:=y3.cell 2;have e0:=z3.cell 0;have e1:=z3.cell 1;have e2:=z3.cell 2;simp only [IP.cs,itmC,List.getElem?_toArray,List.getElem?_cons_zero,List.getElem?_cons_succ] at c0 c1 c2 d0 d1 d2 e0 e1 e2;obtain ⟨g,hg⟩:∃ g,lightJ ([x,y,z].map IP.m)=g:=⟨_,rfl⟩;rw [hg] at HL;simp only [IP.cs,itmC,flatJ,List.flatMap_cons,List.flatMap_nil,List.append_nil,List.cons_append,List.nil_append] at hW1 hW2 hW3 hW4;clear b1 x1 b2 y2 b3 z3 b4 r4 b13 b14 x3 y3 H hg ba0 ba1 ba2 wi0 wi1 wi2 ri0 ri1 ri2
 unfold IP.cs itmC
 go_enter Try.func5,Try.ntmps5
 go_upto_region 1 with fail
 clear hW1 hW2 hW3
 go_wp2_with fail
 refine HL.out.mono ?_
 rintro e w5 ⟨rfl,hb5⟩;have HB5:=Lib.hid (HB4.out.trans (hb5.mono HB4.out.size))
 cases g with
 | false =>
   clear c0 c1 c2 d0 d1 d2 e0 e1 e2 hb5 HL
   go_wp2_with fail
   refine (ans13_any HC.out w5).mono ?_
   rintro e w6 ⟨rfl,hb6⟩;have HB6:=Lib.hid (HB5.out.trans (hb6.mono HB5.out.size));clear hb6
   go_wp2
   go_ret
   exact ⟨rfl,HB6.out⟩
 | true =>
   have k:=HBY.out w5 hb5;have HY:Hid (∀ p:Since w5,DatAt p.w' x∧DatAt p.w' y∧DatAt p.w' z):=Lib.hid (fun p => ⟨k.2.2.2.1.below p.bel,k.2.2.2.2.1.below p.bel,k.2.2.2.2.2.below p.bel⟩)
   clear c0 c1 c2 d0 d1 d2 e0 e1 e2 hb5 HL;have k0:=k.1.cell 0;have k1:=k.1.cell 1;have k2:=k.1.cell 2;have l0:=k.2.1.cell 0;have l1:=k.2.1.cell 1;have l2:=k.2.1.cell 2;have m0:=k.2.2.1.cell 0;have m1:=k.2.2.1.cell 1;have m2:=k.2.2.1.cell 2;simp only [IP.cs,itmC,List.getElem?_toArray,List.getElem?_cons_zero,List.getElem?_cons_succ] at k0 k1 k2 l0 l1 l2 m0 m1 m2;have sc0:=since_cell k0;have sc1:=since_cell k1;have sc2:=since_cell k2;have sd0:=since_cell l0;have sd1:=since_cell l1;have sd2:=since_cell l2;have se0:=since_cell m0;have se1:=since_cell m1;have se2:=since_cell m2
   clear k k0 k1 k2 l0 l1 l2 m0 m1 m2;obtain ⟨A,hA⟩:∃ A,lessI x.m y.m=A:=⟨_,rfl⟩;obtain ⟨B,hB⟩:∃ B,lessI y.m x.m=B:=⟨_,rfl⟩;obtain ⟨C,hC⟩:∃ C,lessI y.m z.m=C:=⟨_,rfl⟩;obtain ⟨D,hD⟩:∃ D,lessI x.m z.m=D:=⟨_,rfl⟩;obtain ⟨E,hE⟩:∃ E,decide (x.m=y.m)=E:=⟨_,rfl⟩
   have F:OrdF w5 x y z A B C D E:=
    { c1:=fun p => by have h:=HC.out.less p.w' x y (HY.out p).1 (HY.out p).2.1;rw [hA] at h;exact h
      c2:=fun p => by have h:=HC.out.less p.w' y x (HY.out p).2.1 (HY.out p).1;rw [hB] at h;exact h
      c3:=fun p => by have h:=HC.out.less p.w' y z (HY.out p).2.1 (HY.out p).2.2;rw [hC] at h;exact h
      c4:=fun p => by have h:=HC.out.less p.w' x z (HY.out p).1 (HY.out p).2.2;rw [hD] at h;exact h
      c5:=fun p => by have h:=rless_any x y p.w';rw [hA] at h;exact h
      c6:=fun p => by have h:=HC.out.same p.w' x y (HY.out p).1 (HY.out p).2.1;rw [hE] at h;exact h
      c7:=fun p => by have h:=rsame_any x y p.w' (HY.out p).1 (HY.out p).2.1;rw [hE] at h;exact h
      c8:=fun p => ans13_any HC.out p.w' }
   have t1:=strL_eq x.m.key y.m.key;obtain ⟨rfl,rfl,rfl,rfl⟩:A=true∧B=false∧C=true∧D=true:=⟨hA ▸ HK.out.1,hB ▸ HK.out.2.1,hC ▸ HK.out.2.2.1,hD ▸ HK.out.2.2.2⟩;clear hE HC HK HY HBY HB4 hW4
   try clear hA
   try clear hB
   try clear hC
   try clear hD
   clear t1
   go_upto_region 3 with fail
   refine wp_region_since (by kernel_rfl) (by kernel_rfl) ?_
   repeat (quiet_step (first
    | (go_at_call 9;with_reducible exact Calls.since_of (F.c8 _))
    | (go_at_call 16;with_reducible exact Calls.since_of (F.c1 _))
    | (go_at_call 16;with_reducible exact Calls.since_of (F.c2 _))
    | (go_at_call 16;with_reducible exact Calls.since_of (F.c3 _))
    | (go_at_call 16;with_reducible exact Calls.since_of (F.c4 _))
    | (go_at_call 17;with_reducible exact Calls.since_of (F.c5 _))
    | (go_at_call 18;with_reducible exact Calls.since_of (F.c6 _))
    | (go_at_call 14;with_reducible exact Calls.since_of (F.c7 _))))
   refine wpQuiet_nil ?_
   intro wq hw';have HWQ:=Lib.hid (HB5.out.trans ((since_bel hw').mono HB5.out.size));clear hw' sc0 sc1 sc2 sd0 sd1 sd2 se0 se1 se2
   go_wp2
   go_ret
   exact ⟨by simp,HWQ.out⟩
end Go.Proofs.Ytpdpgjilalojjaa.Walk
end
section
namespace Go.Proofs.Ytpdpgjilalojjaa.Walk
open Go.ChangeShapes Go.WideShapes Go.ChangeAt Go.RowKit Base Byt Txt Bk Rec Block Mem Tre Itm Go.Lib
set_option linter.unusedVariables false
set_option maxRecDepth 100000
attribute [local irreducible] wpQuiet
set_option maxHeartbeats 8000000 in
theorem recOrders_2 (H:ItmC4) (x y z:IP) (w:World) (ba0:DatAt w x) (wi0:WfI x.m) (ri0:RoomI x) (ba1:DatAt w y) (wi1:WfI y.m) (ri1:RoomI y) (ba2:DatAt w z) (wi2:WfI z.m) (ri2:RoomI z) (hk:lessI x.m y.m=true∧lessI y.m x.m=false∧lessI y.m z.m=false) :
 Calls Try.prog 5 #[.agg x.cs,.agg y.cs,.agg z.cs] w fun e w' => e=.returned (.bool true)∧Below w.heap.size w w':=by
 have HK:=Lib.hid hk;clear hk;obtain ⟨W1,hW1⟩:∃ W1,w.alloc (.cells x.cs 24)=W1:=⟨_,rfl⟩;have b1:Below w.heap.size w W1:=by rw [← hW1];exact (Below.refl _ _).alloc (Nat.le_refl _) _
 have x1:Blk W1 w.heap.size 24 x.cs:=by rw [← hW1];exact Blk.new w _ _
 obtain ⟨W2,hW2⟩:∃ W2,W1.alloc (.cells y.cs 24)=W2:=⟨_,rfl⟩;have b2:Below W1.heap.size W1 W2:=by rw [← hW2];exact (Below.refl _ _).alloc (Nat.le_refl _) _
 have y2:Blk W2 W1.heap.size 24 y.cs:=by rw [← hW2];exact Blk.new W1 _ _
 obtain ⟨W3,hW3⟩:∃ W3,W2.alloc (.cells z.cs 24)=W3:=⟨_,rfl⟩;have b3:Below W2.heap.size W2 W3:=by rw [← hW3];exact (Below.refl _ _).alloc (Nat.le_refl _) _
 have z3:Blk W3 W2.heap.size 24 z.cs:=by rw [← hW3];exact Blk.new W2 _ _
 obtain ⟨W4,hW4⟩:∃ W4,W3.alloc (.cells (flatJ [x,y,z]).toArray 24)=W4:=⟨_,rfl⟩;have b4:Below W3.heap.size W3 W4:=by rw [← hW4];exact (Below.refl _ _).alloc (Nat.le_refl _) _
 have r4:Blk W4 W3.heap.size 24 (flatJ [x,y,z]).toArray:=by rw [← hW4];exact Blk.new W3 _ _
 have b13:Below w.heap.size w W3:=(b1.trans (b2.mono b1.size)).trans (b3.mono (by have:=b1.size;have:=b2.size;omega))
 have b14:Below w.heap.size w W4:=b13.trans (b4.mono b13.size);have x3:Blk W3 w.heap.size 24 x.cs:=(x1.below b2 x1.lt).below b3 (x1.below b2 x1.lt).lt;have y3:Blk W3 W1.heap.size 24 y.cs:=y2.below b3 y2.lt
 have HL:=Lib.hid (lightJ_any (some ⟨W3.heap.size,0,none⟩) 3 3 [x,y,z] W4 (items_blk r4 (fun u hu => by
  simp only [List.mem_cons,List.not_mem_nil,or_false] at hu;rcases hu with rfl | rfl | rfl
  ·exact ba0.below b14
  ·exact ba1.below b14
  ·exact ba2.below b14)) (by decide) (fun u hu => by
  simp only [List.mem_cons,List.not_mem_nil,or_false] at hu;rcases hu with rfl | rfl | rfl
  ·exact ri0
  ·exact ri1
  ·exact ri2))
 have HC:=Lib.hid H
 have HBY:Hid (∀ w',Below W4.heap.size W4 w' → Blk w' w.heap.size 24 x.cs∧Blk w' W1.heap.size 24 y.cs∧Blk w' W2.heap.size 24 z.cs∧DatAt w' x∧DatAt w' y∧DatAt w' z):=Lib.hid (fun w' h => by
  have x4:=x3.below b4 x3.lt;have y4:=y3.below b4 y3.lt;have z4:=z3.below b4 z3.lt
  exact ⟨x4.below h x4.lt,y4.below h y4.lt,z4.below h z4.lt,(ba0.below b14).below h,(ba1.below b14).below h,(ba2.below b14).below h⟩)
 have HB4:=Lib.hid b14;have c0:=x3.cell 0;have c1:=x3.cell 1;have c2:=x3.cell 2;have d0:=y3.cell 0;have d1:=y3.cell 1;have d2:=y3.cell 2;have e0:=z3.cell 0;have e1:=z3.cell 1;have e2:=z3.cell 2;simp only [IP.cs,itmC,List.getElem?_toArray,List.getElem?_cons_zero,List.getElem?_cons_succ] at c0 c1 c2 d0 d1 d2 e0 e1 e2;obtain ⟨g,hg⟩:∃ g,lightJ ([x,y,z].map IP.m)=g:=⟨_,rfl⟩;rw [hg] at HL;simp only [IP.cs,itmC,flatJ,List.flatMap_cons,List.flatMap_nil,List.append_nil,List.cons_append,List.nil_append] at hW1 hW2 hW3 hW4;clear b1 x1 b2 y2 b3 z3 b4 r4 b13 b14 x3 y3 H hg ba0 ba1 ba2 wi0 wi1 wi2 ri0 ri1 ri2
 unfold IP.cs itmC
 go_enter Try.func5,Try.ntmps5
 go_upto_region 1 with fail
 clear hW1 hW2 hW3
 go_wp2_with fail
 refine HL.out.mono ?_
 rintro e w5 ⟨rfl,hb5⟩;have HB5:=Lib.hid (HB4.out.trans (hb5.mono HB4.out.size))
 cases g with
 | false =>
   clear c0 c1 c2 d0 d1 d2 e0 e1 e2 hb5 HL
   go_wp2_with fail
   refine (ans13_any HC.out w5).mono ?_
   rintro e w6 ⟨rfl,hb6⟩;have HB6:=Lib.hid (HB5.out.trans (hb6.mono HB5.out.size));clear hb6
   go_wp2
   go_ret
   exact ⟨rfl,HB6.out⟩
 | true =>
   have k:=HBY.out w5 hb5;have HY:Hid (∀ p:Since w5,DatAt p.w' x∧DatAt p.w' y∧DatAt p.w' z):=Lib.hid (fun p => ⟨k.2.2.2.1.below p.bel,k.2.2.2.2.1.below p.bel,k.2.2.2.2.2.below p.bel⟩)
   clear c0 c1 c2 d0 d1 d2 e0 e1 e2 hb5 HL;have k0:=k.1.cell 0;have k1:=k.1.cell 1;have k2:=k.1.cell 2;have l0:=k.2.1.cell 0;have l1:=k.2.1.cell 1;have l2:=k.2.1.cell 2;have m0:=k.2.2.1.cell 0;have m1:=k.2.2.1.cell 1;have m2:=k.2.2.1.cell 2;simp only [IP.cs,itmC,List.getElem?_toArray,List.getElem?_cons_zero,List.getElem?_cons_succ] at k0 k1 k2 l0 l1 l2 m0 m1 m2;have sc0:=since_cell k0;have sc1:=since_cell k1;have sc2:=since_cell k2;have sd0:=since_cell l0;have sd1:=since_cell l1;have sd2:=since_cell l2;have se0:=since_cell m0;have se1:=since_cell m1;have se2:=since_cell m2
   clear k k0 k1 k2 l0 l1 l2 m0 m1 m2;obtain ⟨A,hA⟩:∃ A,lessI x.m y.m=A:=⟨_,rfl⟩;obtain ⟨B,hB⟩:∃ B,lessI y.m x.m=B:=⟨_,rfl⟩;obtain ⟨C,hC⟩:∃ C,lessI y.m z.m=C:=⟨_,rfl⟩;obtain ⟨D,hD⟩:∃ D,lessI x.m z.m=D:=⟨_,rfl⟩;obtain ⟨E,hE⟩:∃ E,decide (x.m=y.m)=E:=⟨_,rfl⟩
   have F:OrdF w5 x y z A B C D E:=
    { c1:=fun p => by have h:=HC.out.less p.w' x y (HY.out p).1 (HY.out p).2.1;rw [hA] at h;exact h
      c2:=fun p => by have h:=HC.out.less p.w' y x (HY.out p).2.1 (HY.out p).1;rw [hB] at h;exact h
      c3:=fun p => by have h:=HC.out.less p.w' y z (HY.out p).2.1 (HY.out p).2.2;rw [hC] at h;exact h
      c4:=fun p => by have h:=HC.out.less p.w' x z (HY.out p).1 (HY.out p).2.2;rw [hD] at h;exact h
      c5:=fun p => by have h:=rless_any x y p.w';rw [hA] at h;exact h
      c6:=fun p => by have h:=HC.out.same p.w' x y (HY.out p).1 (HY.out p).2.1;rw [hE] at h;exact h
      c7:=fun p => by have h:=rsame_any x y p.w' (HY.out p).1 (HY.out p).2.1;rw [hE] at h;exact h
      c8:=fun p => ans13_any HC.out p.w' }
   have t1:=strL_eq x.m.key y.m.key;obtain ⟨rfl,rfl,rfl⟩:A=true∧B=false∧C=false:=⟨hA ▸ HK.out.1,hB ▸ HK.out.2.1,hC ▸ HK.out.2.2⟩;clear hE HC HK HY HBY HB4 hW4
   try clear hA
   try clear hB
   try clear hC
   try clear hD
   clear t1
   go_upto_region 3 with fail
   refine wp_region_since (by kernel_rfl) (by kernel_rfl) ?_
   repeat (quiet_step (first
    | (go_at_call 9;with_reducible exact Calls.since_of (F.c8 _))
    | (go_at_call 16;with_reducible exact Calls.since_of (F.c1 _))
    | (go_at_call 16;with_reducible exact Calls.since_of (F.c2 _))
    | (go_at_call 16;with_reducible exact Calls.since_of (F.c3 _))
    | (go_at_call 16;with_reducible exact Calls.since_of (F.c4 _))
    | (go_at_call 17;with_reducible exact Calls.since_of (F.c5 _))
    | (go_at_call 18;with_reducible exact Calls.since_of (F.c6 _))
    | (go_at_call 14;with_reducible exact Calls.since_of (F.c7 _))))
   refine wpQuiet_nil ?_
   intro wq hw';have HWQ:=Lib.hid (HB5.out.trans ((since_bel hw').mono HB5.out.size));clear hw' sc0 sc1 sc2 sd0 sd1 sd2 se0 se1 se2
   go_wp2
   go_ret
   exact ⟨by simp,HWQ.out⟩
end Go.Proofs.Ytpdpgjilalojjaa.Walk
end
section
namespace Go.Proofs.Ytpdpgjilalojjaa.Walk
open Go.ChangeShapes Go.WideShapes Go.ChangeAt Go.RowKit Base Byt Txt Bk Rec Block Mem Tre Itm Go.Lib
set_option linter.unusedVariables false
set_option maxRecDepth 100000
attribute [local irreducible] wpQuiet
set_option maxHeartbeats 8000000 in
theorem recOrders_3 (H:ItmC4) (x y z:IP) (w:World) (ba0:DatAt w x) (wi0:WfI x.m) (ri0:RoomI x) (ba1:DatAt w y) (wi1:WfI y.m) (ri1:RoomI y) (ba2:DatAt w z) (wi2:WfI z.m) (ri2:RoomI z) (hk:lessI x.m y.m=false∧lessI y.m x.m=true) :
 Calls Try.prog 5 #[.agg x.cs,.agg y.cs,.agg z.cs] w fun e w' => e=.returned (.bool true)∧Below w.heap.size w w':=by
 have HK:=Lib.hid hk;clear hk;obtain ⟨W1,hW1⟩:∃ W1,w.alloc (.cells x.cs 24)=W1:=⟨_,rfl⟩;have b1:Below w.heap.size w W1:=by rw [← hW1];exact (Below.refl _ _).alloc (Nat.le_refl _) _
 have x1:Blk W1 w.heap.size 24 x.cs:=by rw [← hW1];exact Blk.new w _ _
 obtain ⟨W2,hW2⟩:∃ W2,W1.alloc (.cells y.cs 24)=W2:=⟨_,rfl⟩;have b2:Below W1.heap.size W1 W2:=by rw [← hW2];exact (Below.refl _ _).alloc (Nat.le_refl _) _
 have y2:Blk W2 W1.heap.size 24 y.cs:=by rw [← hW2];exact Blk.new W1 _ _
 obtain ⟨W3,hW3⟩:∃ W3,W2.alloc (.cells z.cs 24)=W3:=⟨_,rfl⟩;have b3:Below W2.heap.size W2 W3:=by rw [← hW3];exact (Below.refl _ _).alloc (Nat.le_refl _) _
 have z3:Blk W3 W2.heap.size 24 z.cs:=by rw [← hW3];exact Blk.new W2 _ _
 obtain ⟨W4,hW4⟩:∃ W4,W3.alloc (.cells (flatJ [x,y,z]).toArray 24)=W4:=⟨_,rfl⟩;have b4:Below W3.heap.size W3 W4:=by rw [← hW4];exact (Below.refl _ _).alloc (Nat.le_refl _) _
 have r4:Blk W4 W3.heap.size 24 (flatJ [x,y,z]).toArray:=by rw [← hW4];exact Blk.new W3 _ _
 have b13:Below w.heap.size w W3:=(b1.trans (b2.mono b1.size)).trans (b3.mono (by have:=b1.size;have:=b2.size;omega))
 have b14:Below w.heap.size w W4:=b13.trans (b4.mono b13.size);have x3:Blk W3 w.heap.size 24 x.cs:=(x1.below b2 x1.lt).below b3 (x1.below b2 x1.lt).lt;have y3:Blk W3 W1.heap.size 24 y.cs:=y2.below b3 y2.lt
 have HL:=Lib.hid (lightJ_any (some ⟨W3.heap.size,0,none⟩) 3 3 [x,y,z] W4 (items_blk r4 (fun u hu => by
  simp only [List.mem_cons,List.not_mem_nil,or_false] at hu;rcases hu with rfl | rfl | rfl
  ·exact ba0.below b14
  ·exact ba1.below b14
  ·exact ba2.below b14)) (by decide) (fun u hu => by
  simp only [List.mem_cons,List.not_mem_nil,or_false] at hu;rcases hu with rfl | rfl | rfl
  ·exact ri0
  ·exact ri1
  ·exact ri2))
 have HC:=Lib.hid H
 have HBY:Hid (∀ w',Below W4.heap.size W4 w' → Blk w' w.heap.size 24 x.cs∧Blk w' W1.heap.size 24 y.cs∧Blk w' W2.heap.size 24 z.cs∧DatAt w' x∧DatAt w' y∧DatAt w' z):=Lib.hid (fun w' h => by
  have x4:=x3.below b4 x3.lt;have y4:=y3.below b4 y3.lt;have z4:=z3.below b4 z3.lt
  exact ⟨x4.below h x4.lt,y4.below h y4.lt,z4.below h z4.lt,(ba0.below b14).below h,(ba1.below b14).below h,(ba2.below b14).below h⟩)
 have HB4:=Lib.hid b14;have c0:=x3.cell 0;have c1:=x3.cell 1;have c2:=x3.cell 2;have d0:=y3.cell 0;have d1:=y3.cell 1;have d2:=y3.cell 2;have e0:=z3.cell 0;have e1:=z3.cell 1;have e2:=z3.cell 2;simp only [IP.cs,itmC,List.getElem?_toArray,List.getElem?_cons_zero,List.getElem?_cons_succ] at c0 c1 c2 d0 d1 d2 e0 e1 e2;obtain ⟨g,hg⟩:∃ g,lightJ ([x,y,z].map IP.m)=g:=⟨_,rfl⟩;rw [hg] at HL;simp only [IP.cs,itmC,flatJ,List.flatMap_cons,List.flatMap_nil,List.append_nil,List.cons_append,List.nil_append] at hW1 hW2 hW3 hW4;clear b1 x1 b2 y2 b3 z3 b4 r4 b13 b14 x3 y3 H hg ba0 ba1 ba2 wi0 wi1 wi2 ri0 ri1 ri2
 unfold IP.cs itmC
 go_enter Try.func5,Try.ntmps5
 go_upto_region 1 with fail
 clear hW1 hW2 hW3
 go_wp2_with fail
 refine HL.out.mono ?_
 rintro e w5 ⟨rfl,hb5⟩;have HB5:=Lib.hid (HB4.out.trans (hb5.mono HB4.out.size))
 cases g with
 | false =>
   clear c0 c1 c2 d0 d1 d2 e0 e1 e2 hb5 HL
   go_wp2_with fail
   refine (ans13_any HC.out w5).mono ?_
   rintro e w6 ⟨rfl,hb6⟩;have HB6:=Lib.hid (HB5.out.trans (hb6.mono HB5.out.size));clear hb6
   go_wp2
   go_ret
   exact ⟨rfl,HB6.out⟩
 | true =>
   have k:=HBY.out w5 hb5;have HY:Hid (∀ p:Since w5,DatAt p.w' x∧DatAt p.w' y∧DatAt p.w' z):=Lib.hid (fun p => ⟨k.2.2.2.1.below p.bel,k.2.2.2.2.1.below p.bel,k.2.2.2.2.2.below p.bel⟩)
   clear c0 c1 c2 d0 d1 d2 e0 e1 e2 hb5 HL;have k0:=k.1.cell 0;have k1:=k.1.cell 1;have k2:=k.1.cell 2;have l0:=k.2.1.cell 0;have l1:=k.2.1.cell 1;have l2:=k.2.1.cell 2;have m0:=k.2.2.1.cell 0;have m1:=k.2.2.1.cell 1;have m2:=k.2.2.1.cell 2;simp only [IP.cs,itmC,List.getElem?_toArray,List.getElem?_cons_zero,List.getElem?_cons_succ] at k0 k1 k2 l0 l1 l2 m0 m1 m2;have sc0:=since_cell k0;have sc1:=since_cell k1;have sc2:=since_cell k2;have sd0:=since_cell l0;have sd1:=since_cell l1;have sd2:=since_cell l2;have se0:=since_cell m0;have se1:=since_cell m1;have se2:=since_cell m2
   clear k k0 k1 k2 l0 l1 l2 m0 m1 m2;obtain ⟨A,hA⟩:∃ A,lessI x.m y.m=A:=⟨_,rfl⟩;obtain ⟨B,hB⟩:∃ B,lessI y.m x.m=B:=⟨_,rfl⟩;obtain ⟨C,hC⟩:∃ C,lessI y.m z.m=C:=⟨_,rfl⟩;obtain ⟨D,hD⟩:∃ D,lessI x.m z.m=D:=⟨_,rfl⟩;obtain ⟨E,hE⟩:∃ E,decide (x.m=y.m)=E:=⟨_,rfl⟩
   have F:OrdF w5 x y z A B C D E:=
    { c1:=fun p => by have h:=HC.out.less p.w' x y (HY.out p).1 (HY.out p).2.1;rw [hA] at h;exact h
      c2:=fun p => by have h:=HC.out.less p.w' y x (HY.out p).2.1 (HY.out p).1;rw [hB] at h;exact h
      c3:=fun p => by have h:=HC.out.less p.w' y z (HY.out p).2.1 (HY.out p).2.2;rw [hC] at h;exact h
      c4:=fun p => by have h:=HC.out.less p.w' x z (HY.out p).1 (HY.out p).2.2;rw [hD] at h;exact h
      c5:=fun p => by have h:=rless_any x y p.w';rw [hA] at h;exact h
      c6:=fun p => by have h:=HC.out.same p.w' x y (HY.out p).1 (HY.out p).2.1;rw [hE] at h;exact h
      c7:=fun p => by have h:=rsame_any x y p.w' (HY.out p).1 (HY.out p).2.1;rw [hE] at h;exact h
      c8:=fun p => ans13_any HC.out p.w' }
   have t1:=strL_eq x.m.key y.m.key;obtain ⟨rfl,rfl⟩:A=false∧B=true:=⟨hA ▸ HK.out.1,hB ▸ HK.out.2⟩;clear hE HC HK HY HBY HB4 hW4
   try clear hA
   try clear hB
   try clear hC
   try clear hD
   clear t1
   go_upto_region 3 with fail
   refine wp_region_since (by kernel_rfl) (by kernel_rfl) ?_
   repeat (quiet_step (first
    | (go_at_call 9;with_reducible exact Calls.since_of (F.c8 _))
    | (go_at_call 16;with_reducible exact Calls.since_of (F.c1 _))
    | (go_at_call 16;with_reducible exact Calls.since_of (F.c2 _))
    | (go_at_call 16;with_reducible exact Calls.since_of (F.c3 _))
    | (go_at_call 16;with_reducible exact Calls.since_of (F.c4 _))
    | (go_at_call 17;with_reducible exact Calls.since_of (F.c5 _))
    | (go_at_call 18;with_reducible exact Calls.since_of (F.c6 _))
    | (go_at_call 14;with_reducible exact Calls.since_of (F.c7 _))))
   refine wpQuiet_nil ?_
   intro wq hw';have HWQ:=Lib.hid (HB5.out.trans ((since_bel hw').mono HB5.out.size));clear hw' sc0 sc1 sc2 sd0 sd1 sd2 se0 se1 se2
   go_wp2
   go_ret
   exact ⟨by simp,HWQ.out⟩
end Go.Proofs.Ytpdpgjilalojjaa.Walk
end
section
namespace Go.Proofs.Ytpdpgjilalojjaa.Walk
open Go.ChangeShapes Go.WideShapes Go.ChangeAt Go.RowKit Base Byt Txt Bk Rec Block Mem Tre Itm Go.Lib
set_option linter.unusedVariables false
set_option maxRecDepth 100000
attribute [local irreducible] wpQuiet
set_option maxHeartbeats 8000000 in
theorem recOrders_4 (H:ItmC4) (x y z:IP) (w:World) (ba0:DatAt w x) (wi0:WfI x.m) (ri0:RoomI x) (ba1:DatAt w y) (wi1:WfI y.m) (ri1:RoomI y) (ba2:DatAt w z) (wi2:WfI z.m) (ri2:RoomI z) (hk:lessI x.m y.m=false∧lessI y.m x.m=false∧x.m.key=y.m.key∧x.m.seq=y.m.seq) :
 Calls Try.prog 5 #[.agg x.cs,.agg y.cs,.agg z.cs] w fun e w' => e=.returned (.bool true)∧Below w.heap.size w w':=by
 have HK:=Lib.hid hk;clear hk;obtain ⟨W1,hW1⟩:∃ W1,w.alloc (.cells x.cs 24)=W1:=⟨_,rfl⟩;have b1:Below w.heap.size w W1:=by rw [← hW1];exact (Below.refl _ _).alloc (Nat.le_refl _) _
 have x1:Blk W1 w.heap.size 24 x.cs:=by rw [← hW1];exact Blk.new w _ _
 obtain ⟨W2,hW2⟩:∃ W2,W1.alloc (.cells y.cs 24)=W2:=⟨_,rfl⟩;have b2:Below W1.heap.size W1 W2:=by rw [← hW2];exact (Below.refl _ _).alloc (Nat.le_refl _) _
 have y2:Blk W2 W1.heap.size 24 y.cs:=by rw [← hW2];exact Blk.new W1 _ _
 obtain ⟨W3,hW3⟩:∃ W3,W2.alloc (.cells z.cs 24)=W3:=⟨_,rfl⟩;have b3:Below W2.heap.size W2 W3:=by rw [← hW3];exact (Below.refl _ _).alloc (Nat.le_refl _) _
 have z3:Blk W3 W2.heap.size 24 z.cs:=by rw [← hW3];exact Blk.new W2 _ _
 obtain ⟨W4,hW4⟩:∃ W4,W3.alloc (.cells (flatJ [x,y,z]).toArray 24)=W4:=⟨_,rfl⟩;have b4:Below W3.heap.size W3 W4:=by rw [← hW4];exact (Below.refl _ _).alloc (Nat.le_refl _) _
 have r4:Blk W4 W3.heap.size 24 (flatJ [x,y,z]).toArray:=by rw [← hW4];exact Blk.new W3 _ _
 have b13:Below w.heap.size w W3:=(b1.trans (b2.mono b1.size)).trans (b3.mono (by have:=b1.size;have:=b2.size;omega))
 have b14:Below w.heap.size w W4:=b13.trans (b4.mono b13.size);have x3:Blk W3 w.heap.size 24 x.cs:=(x1.below b2 x1.lt).below b3 (x1.below b2 x1.lt).lt;have y3:Blk W3 W1.heap.size 24 y.cs:=y2.below b3 y2.lt
 have HL:=Lib.hid (lightJ_any (some ⟨W3.heap.size,0,none⟩) 3 3 [x,y,z] W4 (items_blk r4 (fun u hu => by
  simp only [List.mem_cons,List.not_mem_nil,or_false] at hu;rcases hu with rfl | rfl | rfl
  ·exact ba0.below b14
  ·exact ba1.below b14
  ·exact ba2.below b14)) (by decide) (fun u hu => by
  simp only [List.mem_cons,List.not_mem_nil,or_false] at hu;rcases hu with rfl | rfl | rfl
  ·exact ri0
  ·exact ri1
  ·exact ri2))
 have HC:=Lib.hid H
 have HBY:Hid (∀ w',Below W4.heap.size W4 w' → Blk w' w.heap.size 24 x.cs∧Blk w' W1.heap.size 24 y.cs∧Blk w' W2.heap.size 24 z.cs∧DatAt w' x∧DatAt w' y∧DatAt w' z):=Lib.hid (fun w' h => by
  have x4:=x3.below b4 x3.lt;have y4:=y3.below b4 y3.lt;have z4:=z3.below b4 z3.lt
  exact ⟨x4.below h x4.lt,y4.below h y4.lt,z4.below h z4.lt,(ba0.below b14).below h,(ba1.below b14).below h,(ba2.below b14).below h⟩)
 have HB4:=Lib.hid b14;have c0:=x3.cell 0;have c1:=x3.cell 1;have c2:=x3.cell 2;have d0:=y3.cell 0;have d1:=y3.cell 1;have d2:=y3.cell 2;have e0:=z3.cell 0;have e1:=z3.cell 1;have e2:=z3.cell 2;simp only [IP.cs,itmC,List.getElem?_toArray,List.getElem?_cons_zero,List.getElem?_cons_succ] at c0 c1 c2 d0 d1 d2 e0 e1 e2;obtain ⟨g,hg⟩:∃ g,lightJ ([x,y,z].map IP.m)=g:=⟨_,rfl⟩;rw [hg] at HL;simp only [IP.cs,itmC,flatJ,List.flatMap_cons,List.flatMap_nil,List.append_nil,List.cons_append,List.nil_append] at hW1 hW2 hW3 hW4;clear b1 x1 b2 y2 b3 z3 b4 r4 b13 b14 x3 y3 H hg ba0 ba1 ba2 wi0 wi1 wi2 ri0 ri1 ri2
 unfold IP.cs itmC
 go_enter Try.func5,Try.ntmps5
 go_upto_region 1 with fail
 clear hW1 hW2 hW3
 go_wp2_with fail
 refine HL.out.mono ?_
 rintro e w5 ⟨rfl,hb5⟩;have HB5:=Lib.hid (HB4.out.trans (hb5.mono HB4.out.size))
 cases g with
 | false =>
   clear c0 c1 c2 d0 d1 d2 e0 e1 e2 hb5 HL
   go_wp2_with fail
   refine (ans13_any HC.out w5).mono ?_
   rintro e w6 ⟨rfl,hb6⟩;have HB6:=Lib.hid (HB5.out.trans (hb6.mono HB5.out.size));clear hb6
   go_wp2
   go_ret
   exact ⟨rfl,HB6.out⟩
 | true =>
   have k:=HBY.out w5 hb5;have HY:Hid (∀ p:Since w5,DatAt p.w' x∧DatAt p.w' y∧DatAt p.w' z):=Lib.hid (fun p => ⟨k.2.2.2.1.below p.bel,k.2.2.2.2.1.below p.bel,k.2.2.2.2.2.below p.bel⟩)
   clear c0 c1 c2 d0 d1 d2 e0 e1 e2 hb5 HL;have k0:=k.1.cell 0;have k1:=k.1.cell 1;have k2:=k.1.cell 2;have l0:=k.2.1.cell 0;have l1:=k.2.1.cell 1;have l2:=k.2.1.cell 2;have m0:=k.2.2.1.cell 0;have m1:=k.2.2.1.cell 1;have m2:=k.2.2.1.cell 2;simp only [IP.cs,itmC,List.getElem?_toArray,List.getElem?_cons_zero,List.getElem?_cons_succ] at k0 k1 k2 l0 l1 l2 m0 m1 m2;have sc0:=since_cell k0;have sc1:=since_cell k1;have sc2:=since_cell k2;have sd0:=since_cell l0;have sd1:=since_cell l1;have sd2:=since_cell l2;have se0:=since_cell m0;have se1:=since_cell m1;have se2:=since_cell m2
   clear k k0 k1 k2 l0 l1 l2 m0 m1 m2;obtain ⟨A,hA⟩:∃ A,lessI x.m y.m=A:=⟨_,rfl⟩;obtain ⟨B,hB⟩:∃ B,lessI y.m x.m=B:=⟨_,rfl⟩;obtain ⟨C,hC⟩:∃ C,lessI y.m z.m=C:=⟨_,rfl⟩;obtain ⟨D,hD⟩:∃ D,lessI x.m z.m=D:=⟨_,rfl⟩;obtain ⟨E,hE⟩:∃ E,decide (x.m=y.m)=E:=⟨_,rfl⟩
   have F:OrdF w5 x y z A B C D E:=
    { c1:=fun p => by have h:=HC.out.less p.w' x y (HY.out p).1 (HY.out p).2.1;rw [hA] at h;exact h
      c2:=fun p => by have h:=HC.out.less p.w' y x (HY.out p).2.1 (HY.out p).1;rw [hB] at h;exact h
      c3:=fun p => by have h:=HC.out.less p.w' y z (HY.out p).2.1 (HY.out p).2.2;rw [hC] at h;exact h
      c4:=fun p => by have h:=HC.out.less p.w' x z (HY.out p).1 (HY.out p).2.2;rw [hD] at h;exact h
      c5:=fun p => by have h:=rless_any x y p.w';rw [hA] at h;exact h
      c6:=fun p => by have h:=HC.out.same p.w' x y (HY.out p).1 (HY.out p).2.1;rw [hE] at h;exact h
      c7:=fun p => by have h:=rsame_any x y p.w' (HY.out p).1 (HY.out p).2.1;rw [hE] at h;exact h
      c8:=fun p => ans13_any HC.out p.w' }
   have t1:=strL_eq x.m.key y.m.key;obtain ⟨rfl,rfl,h1,h2⟩:A=false∧B=false∧x.m.key=y.m.key∧x.m.seq=y.m.seq:=⟨hA ▸ HK.out.1,hB ▸ HK.out.2.1,HK.out.2.2⟩;clear hE HC HK HY HBY HB4 hW4
   try clear hA
   try clear hB
   try clear hC
   try clear hD
   rw [decide_eq_true h1] at t1;have t2:(x.m.seq == y.m.seq)=true:=by rw [h2];simp
   have t3:decide (x.m.seq=y.m.seq)=true:=decide_eq_true h2;clear h1 h2
   go_upto_region 3 with fail
   refine wp_region_since (by kernel_rfl) (by kernel_rfl) ?_
   repeat (quiet_step (first
    | (go_at_call 9;with_reducible exact Calls.since_of (F.c8 _))
    | (go_at_call 16;with_reducible exact Calls.since_of (F.c1 _))
    | (go_at_call 16;with_reducible exact Calls.since_of (F.c2 _))
    | (go_at_call 16;with_reducible exact Calls.since_of (F.c3 _))
    | (go_at_call 16;with_reducible exact Calls.since_of (F.c4 _))
    | (go_at_call 17;with_reducible exact Calls.since_of (F.c5 _))
    | (go_at_call 18;with_reducible exact Calls.since_of (F.c6 _))
    | (go_at_call 14;with_reducible exact Calls.since_of (F.c7 _))))
   refine wpQuiet_nil ?_
   intro wq hw';have HWQ:=Lib.hid (HB5.out.trans ((since_bel hw').mono HB5.out.size));clear hw' sc0 sc1 sc2 sd0 sd1 sd2 se0 se1 se2
   go_wp2
   go_ret
   exact ⟨by simp,HWQ.out⟩
end Go.Proofs.Ytpdpgjilalojjaa.Walk
end
section
namespace Go.Proofs.Ytpdpgjilalojjaa.Walk
open Go.ChangeShapes Go.WideShapes Go.ChangeAt Go.RowKit Base Byt Txt Bk Rec Block Mem Tre Itm Go.Lib
set_option linter.unusedVariables false
set_option maxRecDepth 100000
theorem recOrdersC (H:ItmC4) (x y z:IP) (w:World) (ba0:DatAt w x) (wi0:WfI x.m) (ri0:RoomI x) (ba1:DatAt w y) (wi1:WfI y.m) (ri1:RoomI y) (ba2:DatAt w z) (wi2:WfI z.m) (ri2:RoomI z) :
 Calls Try.prog 5 #[.agg x.cs,.agg y.cs,.agg z.cs] w fun e w' => e=.returned (.bool true)∧Below w.heap.size w w':=by
 by_cases hA:lessI x.m y.m=true
 ·by_cases hC:lessI y.m z.m=true
  ·exact recOrders_1 H x y z w ba0 wi0 ri0 ba1 wi1 ri1 ba2 wi2 ri2 ⟨hA,lessI_asym hA,hC,lessI_trans hA hC⟩
  ·exact recOrders_2 H x y z w ba0 wi0 ri0 ba1 wi1 ri1 ba2 wi2 ri2 ⟨hA,lessI_asym hA,by simpa using hC⟩
 ·have hA':lessI x.m y.m=false:=by simpa using hA
  by_cases hB:lessI y.m x.m=true
  ·exact recOrders_3 H x y z w ba0 wi0 ri0 ba1 wi1 ri1 ba2 wi2 ri2 ⟨hA',hB⟩
  ·have hB':lessI y.m x.m=false:=by simpa using hB
   exact recOrders_4 H x y z w ba0 wi0 ri0 ba1 wi1 ri1 ba2 wi2 ri2 ⟨hA',hB',(lessI_tri hA' hB').1,(lessI_tri hA' hB').2⟩
end Go.Proofs.Ytpdpgjilalojjaa.Walk
end
section
namespace Go.Proofs.Ytpdpgjilalojjaa.Walk
open Go.ChangeShapes Go.WideShapes Go.ChangeAt Go.RowKit Base Byt Bk Itm Go.Lib
set_option linter.unusedVariables false
theorem recOrders (x y z:IP) (w:World) (ba0:DatAt w x) (wi0:WfI x.m) (ri0:RoomI x) (ba1:DatAt w y) (wi1:WfI y.m) (ri1:RoomI y) (ba2:DatAt w z) (wi2:WfI z.m) (ri2:RoomI z) :
 Calls Try.prog 5 #[.agg x.cs,.agg y.cs,.agg z.cs] w fun e w' => e=.returned (.bool true)∧Below w.heap.size w w':=recOrdersC itemC4 x y z w ba0 wi0 ri0 ba1 wi1 ri1 ba2 wi2 ri2
end Go.Proofs.Ytpdpgjilalojjaa.Walk
end
