/- Texts of this seat, merged: what the proof reaches. -/
import Derived.Test.YtpdpgjilalojjaaRecPutsX16
import Derived.BigQuiet
import Derived.Lib.SlBytesConst
import Derived.Test.YtpdpgjilalojjaaRecPutsX15
namespace Go.Proofs.Ytpdpgjilalojjaa
namespace Base
end Base
namespace Bk
end Bk
namespace Block
end Block
namespace Byt
end Byt
namespace Itm
end Itm
namespace Mem
end Mem
namespace Rec
end Rec
namespace Tre
end Tre
namespace Txt
end Txt
end Go.Proofs.Ytpdpgjilalojjaa
section
namespace Go.Proofs.Ytpdpgjilalojjaa.Itm
open Go.ChangeShapes Go.WideShapes Go.ChangeAt Go.RowKit Base Byt Txt Bk Rec Block Mem Tre Go.Lib
set_option linter.unusedVariables false
set_option maxRecDepth 100000
def sumJ (ms:List ItemV):Nat:=(ms.map fun m => m.key.length+m.data.length).sum
def lightJ (ms:List ItemV):Bool:=decide (ms.length≤200) && decide (sumJ ms≤200000)
theorem sumJ_snoc (ms:List ItemV) (m:ItemV):sumJ (ms++[m])=sumJ ms+m.key.length+m.data.length:=by simp [sumJ];omega
theorem sumJ_mem {ms:List ItemV} {m:ItemV} (h:m ∈ ms):m.key.length+m.data.length≤sumJ ms:=by
 induction ms with
 | nil => cases h
 | cons x ms ih =>
   unfold sumJ at ih ⊢;rw [List.map_cons,List.sum_cons];rcases List.mem_cons.1 h with rfl | h
   ·omega
   ·have:=ih h;omega
theorem lightJ_facts {ms:List ItemV} (h:lightJ ms=true):ms.length≤200 ∧ ∀ m ∈ ms,m.key.length≤200000∧m.data.length≤200000:=by
 unfold lightJ at h;rw [Bool.and_eq_true,decide_eq_true_eq,decide_eq_true_eq] at h;exact ⟨h.1,fun m hm => by have:=sumJ_mem hm;omega⟩
set_option maxHeartbeats 4000000 in
theorem lightJ_any (p:Option Addr) (n c:Nat) (xs:List IP) (w:World) (hM:ItemsAt w p n xs) (hn:n≤140737488351232) (hR:∀ x ∈ xs,RoomI x) :
 Calls Try.prog 8 #[.slice p n c] w fun e w' => e=.returned (.bool (lightJ (xs.map IP.m)))∧Below w.heap.size w w':=by
 have HM:=Lib.hid hM;have HL:=Lib.hid hM.1;have HR:=Lib.hid hR;clear hM hR
 by_cases h200:n≤200
 ·go_enter Try.func8,Try.ntmps8
  go_wp2
  go_loopw [3,4] (fun s i wr => ∃ (k S:Nat),k≤n∧i=.int .i64 (k:Int)∧s=.int .i64 (S:Int)∧S≤k * 281474976702464∧Hid (sumJ ((xs.take k).map IP.m)=S)∧Hid (Below w.heap.size w wr)) (fun _ i _ => n - (RowKit.intOf i).toNat)
  case atStart => exact ⟨0,0,Nat.zero_le _,rfl,rfl,Nat.zero_le _,Lib.hid rfl,Lib.hid (Below.refl _ _)⟩
  case round =>
   obtain ⟨k,S,hk,rfl,rfl,hS,hE,hB⟩:=hrel
   by_cases hlt:k < n
   ·have hlx:k < xs.length:=by rw [HL.out];exact hlt
    have hT:=takeJ_succ xs k hlx;have hrm:=HR.out _ (getJ_mem xs k hlx);obtain ⟨b,o,rfl,hb,hBd,hc⟩:=(HM.out.below hB.out).cells3 hlt;obtain ⟨y,hy⟩:∃ y,xs.getD k zeroJ=y:=⟨_,rfl⟩;rw [hy] at hT hrm hBd hc;obtain ⟨c0,c1,c2⟩:=hc;have hs0:(str y.m.key).size=y.m.key.length:=str_size _;obtain ⟨kl,hkl⟩:∃ kl,y.m.key.length=kl:=⟨_,rfl⟩;obtain ⟨dl,hdl⟩:∃ dl,y.m.data.length=dl:=⟨_,rfl⟩;have hkb:kl≤140737488351232:=by rw [← hkl];exact hrm.1
    have hdb:dl≤140737488351232:=by rw [← hdl];have:=hBd.le;have:=hrm.2;omega
    rw [hkl] at hs0;rw [hdl] at c2;have HT:Hid (sumJ ((xs.take (k+1)).map IP.m)=S+kl+dl):=Lib.hid (by rw [hT,sumJ_snoc,hE.out,hkl,hdl])
    have HS2:Hid (S+kl+dl≤(k+1) * 281474976702464):=Lib.hid (by omega)
    have hltz:(k:Int) < (n:Int):=by omega
    have q1:IntKind.i64.wrap ((S:Int)+(kl:Int))=((S+kl:Nat):Int):=by rw [IntKind.wrap_i64];omega
    have q2:IntKind.i64.wrap (((S+kl:Nat):Int)+(dl:Int))=((S+kl+dl:Nat):Int):=by rw [IntKind.wrap_i64];omega
    obtain ⟨A,hA⟩:∃ A,S+kl=A:=⟨_,rfl⟩;obtain ⟨B,hB2⟩:∃ B,S+kl+dl=B:=⟨_,rfl⟩;rw [hA] at q1;rw [hB2,hA] at q2;rw [hB2] at HT HS2;clear hT hb hy hlx hrm hBd c1 hkl hdl hA hB2
    go_upto_region 5 with fail
    go_quiet (fail)
    go_wp2
    go_roundw
    case rel => exact ⟨k+1,B,by omega,by go_num,rfl,HS2.out,HT,Lib.hid (below_drewN hB.out _)⟩
    case measure => simp [RowKit.intOf];omega
   ·obtain rfl:k=n:=by omega
    have hks:¬ ((k:Int) < (k:Int)):=by omega
    have hz1:(k:Int)≤200:=by omega
    have hSS:sumJ (xs.map IP.m)=S:=by
     rw [← hE.out,List.take_of_length_le (by rw [HL.out];exact Nat.le_refl _)]
    by_cases h2:S≤200000
    ·have hz2:decide ((S:Int)≤200000)=true:=decide_eq_true (by omega)
     have E:Hid (lightJ (xs.map IP.m)=true):=Lib.hid (by unfold lightJ;rw [hSS,List.length_map,HL.out,decide_eq_true h200,decide_eq_true h2];rfl)
     clear hSS
     go_wp2
     go_ret
     exact ⟨by rw [E.out];rfl,hB.out⟩
    ·have hz2:decide ((S:Int)≤200000)=false:=decide_eq_false (by omega)
     have E:Hid (lightJ (xs.map IP.m)=false):=Lib.hid (by unfold lightJ;rw [hSS,decide_eq_false h2,Bool.and_false])
     clear hSS
     go_wp2
     go_ret
     exact ⟨by rw [E.out];rfl,hB.out⟩
 ·have E:Hid (lightJ (xs.map IP.m)=false):=Lib.hid (by unfold lightJ;rw [List.length_map,HL.out,decide_eq_false h200,Bool.false_and])
  go_enter Try.func8,Try.ntmps8
  go_wp2
  go_loopw [3,4] (fun s i wr => ∃ (k:Nat) (S:Int),k≤n∧i=.int .i64 (k:Int)∧s=.int .i64 S∧Hid (Below w.heap.size w wr)) (fun _ i _ => n - (RowKit.intOf i).toNat)
  case atStart => exact ⟨0,0,Nat.zero_le _,rfl,rfl,Lib.hid (Below.refl _ _)⟩
  case round =>
   obtain ⟨k,S,hk,rfl,rfl,hB⟩:=hrel
   by_cases hlt:k < n
   ·have hlx:k < xs.length:=by rw [HL.out];exact hlt
    obtain ⟨b,o,rfl,hb,hBd,hc⟩:=(HM.out.below hB.out).cells3 hlt;obtain ⟨y,hy⟩:∃ y,xs.getD k zeroJ=y:=⟨_,rfl⟩;rw [hy] at hBd hc;obtain ⟨c0,c1,c2⟩:=hc;have hs0:(str y.m.key).size=y.m.key.length:=str_size _;obtain ⟨kl,hkl⟩:∃ kl,y.m.key.length=kl:=⟨_,rfl⟩;obtain ⟨dl,hdl⟩:∃ dl,y.m.data.length=dl:=⟨_,rfl⟩;rw [hkl] at hs0;rw [hdl] at c2;have hltz:(k:Int) < (n:Int):=by omega
    obtain ⟨A,hA⟩:∃ A,IntKind.i64.wrap (S+(kl:Int))=A:=⟨_,rfl⟩;obtain ⟨B,hB2⟩:∃ B,IntKind.i64.wrap (A+(dl:Int))=B:=⟨_,rfl⟩;clear hb hy hlx hBd c1 hkl hdl
    go_upto_region 5 with fail
    go_quiet (fail)
    go_wp2
    go_roundw
    case rel => exact ⟨k+1,B,by omega,by go_num,rfl,Lib.hid (below_drewN hB.out _)⟩
    case measure => simp [RowKit.intOf];omega
   ·obtain rfl:k=n:=by omega
    have hks:¬ ((k:Int) < (k:Int)):=by omega
    have hz1:¬ ((k:Int)≤200):=by omega
    go_wp2
    go_ret
    exact ⟨by rw [E.out];rfl,hB.out⟩
def oneI:ItemV:=⟨[107],7,[100]⟩
theorem may_one:mayI oneI=true:=by decide
theorem bytes_one:(bytesI oneI).length=18:=by rw [bytesI_length];rfl
def aI:ItemV:=⟨[97],0,[]⟩
theorem begins_one:beginsI (bytesI oneI)=(oneI,18,true):=by
 have h:=begins_bytes may_one [];rw [List.append_nil,bytes_one] at h;exact h
theorem dat_a (w:World):DatAt w ⟨aI,none,0⟩:=⟨fun h => absurd h (by decide),Nat.le_refl _,by show (0:Nat)≤maxLen;decide⟩
set_option maxHeartbeats 4000000 in
theorem ans13_any (H:ItmC4) (w:World) :
 Calls Try.prog 9 #[] w fun e w' => e=.returned (.bool true)∧Below w.heap.size w w':=by
 have kc:(convert 22 22 (.slice (some ⟨w.heap.size,0,none⟩) 1 1)).run Try.prog (w.alloc (.cells #[.int .u8 100] 5))=.ok (.slice (some ⟨w.heap.size,0,none⟩) 1 1) (w.alloc (.cells #[.int .u8 100] 5 (1,2))):=
  Lib.run_convert_bytes_const (P:=Try.prog) w 22 5 #[.int .u8 100] 1 1 Try.underlying22 Try.underlying5
 obtain ⟨W1,hW1⟩:∃ W1,(w.alloc (.cells #[.int .u8 100] 5 (1,2))).alloc (.cells #[.string ⟨#[107]⟩,.int .i64 7,.slice (some ⟨w.heap.size,0,none⟩) 1 1] 24)=W1:=⟨_,rfl⟩;have hB1:Below w.heap.size w W1:=by rw [← hW1];exact ((Below.refl _ w).alloc (Nat.le_refl _) _).alloc (by simp) _
 have hb1:Blk W1 (w.heap.size+1) 24 #[.string ⟨#[107]⟩,.int .i64 7,.slice (some ⟨w.heap.size,0,none⟩) 1 1]:=by
  have:=Blk.new (w.alloc (.cells #[.int .u8 100] 5 (1,2))) 24 #[.string ⟨#[107]⟩,.int .i64 7,.slice (some ⟨w.heap.size,0,none⟩) 1 1];rw [World.size_alloc] at this;rw [← hW1];exact this
 have ht1:BAt W1 (some ⟨w.heap.size,0,none⟩) 1 [100]:=fun _ => ⟨w.heap.size,0,rfl,fun i hi => by
  obtain rfl:i=0:=by omega
  rw [← hW1]
  have:(w.alloc (.cells #[.int .u8 100] 5 (1,2))).cell? ⟨w.heap.size,0,none⟩=some (.int .u8 100):=by
   unfold World.cell?;rw [heap_alloc_new];rfl
  exact (((Below.refl (w.heap.size+1) (w.alloc (.cells #[.int .u8 100] 5 (1,2)))).alloc (by simp) _).cell (p:=⟨w.heap.size,0,none⟩) (by show w.heap.size < w.heap.size+1;omega)).trans this⟩
 have hdx:DatAt W1 ⟨oneI,some ⟨w.heap.size,0,none⟩,1⟩:=⟨ht1,by show (1:Nat)≤1;decide,by show (1:Nat)≤maxLen;decide⟩
 have hp1:=H.put W1 ⟨oneI,some ⟨w.heap.size,0,none⟩,1⟩ hdx (by show (Lit.int .i64 7).wf=true;decide) (by show (1:Nat)≤_;decide) (by show (1:Nat)≤_;decide)
 unfold PutIPost at hp1
 dsimp only at hp1
 rw [bytes_one] at hp1;have HP1:=Lib.hid hp1;have HC:=Lib.hid H;have HW1:=Lib.hid hW1;have HB1:=Lib.hid hB1;have HX:=Lib.hid hb1;have HDX:=Lib.hid hdx;clear hW1 hB1 hb1 ht1 hp1 H hdx
 go_enter Try.func9,Try.ntmps9
 go_upto_region 2 with fail
 rw [HW1.out];have c0:=HX.out.cell 0;have c1:=HX.out.cell 1;have c2:=HX.out.cell 2;simp only [List.getElem?_toArray,List.getElem?_cons_zero,List.getElem?_cons_succ] at c0 c1 c2
 go_wp2_with fail
 refine HP1.out.mono ?_
 rintro e w2 (⟨_,p2,c2,rfl,hle2,hmx2,hbt2,hb2⟩ | ⟨hf,_⟩)
 rotate_left
 ·exact absurd may_one (by rw [hf];decide)
 have HB2:=Lib.hid (HB1.out.trans (hb2.mono HB1.out.size));have hg:=HC.out.get w2 p2 18 c2 (bytesI oneI) hbt2 bytes_one hle2 hmx2 (by decide)
 unfold GetIPost at hg;rw [begins_one] at hg;have HG:Hid (Calls Try.prog 12 #[.slice p2 18 c2] w2 fun e w' => ∃ q d,e=.returned (.tuple #[.agg #[.string ⟨#[107]⟩,.int .i64 7,.slice q 1 d],.int .i64 18,.bool true])∧DatAt w' ⟨oneI,q,d⟩∧Below w2.heap.size w2 w'):=Lib.hid hg
 have HX2:=Lib.hid (HX.out.below hb2 HX.out.lt);have HDX2:=Lib.hid (HDX.out.below hb2);clear hle2 hmx2 hbt2 hb2 hg HP1 HW1 kc c0 c1
 go_wp2_with fail
 refine HG.out.mono ?_
 rintro e w3 ⟨q3,d3,rfl,hd3,hb3⟩;obtain ⟨W4,hW4⟩:∃ W4,w3.alloc (.cells #[.string ⟨#[107]⟩,.int .i64 7,.slice q3 1 d3] 24)=W4:=⟨_,rfl⟩;have h34:Below w3.heap.size w3 W4:=by rw [← hW4];exact (Below.refl _ _).alloc (Nat.le_refl _) _
 have hY4:Blk W4 w3.heap.size 24 #[.string ⟨#[107]⟩,.int .i64 7,.slice q3 1 d3]:=by rw [← hW4];exact Blk.new w3 _ _
 have hX3:=HX2.out.below hb3 HX2.out.lt
 have HBY:Hid (∀ w',Below W4.heap.size W4 w' → Blk w' (w.heap.size+1) 24 #[.string ⟨#[107]⟩,.int .i64 7,.slice (some ⟨w.heap.size,0,none⟩) 1 1]∧Blk w' w3.heap.size 24 #[.string ⟨#[107]⟩,.int .i64 7,.slice q3 1 d3]∧DatAt w' ⟨oneI,some ⟨w.heap.size,0,none⟩,1⟩∧DatAt w' ⟨oneI,q3,d3⟩):=Lib.hid (fun w' h => by
  have hX4:=hX3.below h34 hX3.lt
  exact ⟨hX4.below h hX4.lt,hY4.below h hY4.lt,((HDX2.out.below hb3).below h34).below h,(hd3.below h34).below h⟩)
 have HB4:=Lib.hid ((HB2.out.trans (hb3.mono HB2.out.size)).trans (h34.mono (by have:=hb3.size;have:=HB2.out.size;omega)))
 clear hd3 hb3 h34 hY4 hX3
 go_upto_region 4 with fail
 clear hW4;have k:=HBY.out W4 (Below.refl _ _);have c0:=k.1.cell 0;have c1:=k.1.cell 1;have c2:=k.1.cell 2;have d0:=k.2.1.cell 0;have d1:=k.2.1.cell 1;have d2:=k.2.1.cell 2;simp only [List.getElem?_toArray,List.getElem?_cons_zero,List.getElem?_cons_succ] at c0 c1 c2 d0 d1 d2;have hs:=HC.out.same W4 ⟨oneI,some ⟨w.heap.size,0,none⟩,1⟩ ⟨oneI,q3,d3⟩ k.2.2.1 k.2.2.2
 dsimp only at hs
 rw [show decide (oneI=oneI)=true from rfl] at hs
 have HS:=Lib.hid hs;clear k hs
 go_wp2_with fail
 refine HS.out.mono ?_
 rintro e w5 ⟨rfl,hb5⟩;clear c0 c1 c2 d0 d1 d2;have k:=HBY.out w5 hb5;have c0:=k.1.cell 0;have c1:=k.1.cell 1;have c2:=k.1.cell 2;simp only [List.getElem?_toArray,List.getElem?_cons_zero,List.getElem?_cons_succ] at c0 c1 c2;have hs:=HC.out.less w5 ⟨aI,none,0⟩ ⟨oneI,some ⟨w.heap.size,0,none⟩,1⟩ (dat_a _) k.2.2.1
 dsimp only at hs
 rw [show lessI aI oneI=true by decide] at hs
 have HS2:=Lib.hid hs;have HB5:=Lib.hid hb5;clear k hs hb5 HS
 go_wp2_with fail
 refine HS2.out.mono ?_
 rintro e w6 ⟨rfl,hb6⟩;clear c0 c1 c2;have HB6:=Lib.hid (HB5.out.trans (hb6.mono HB5.out.size));have k:=HBY.out w6 HB6.out;have c0:=k.1.cell 0;have c1:=k.1.cell 1;have c2:=k.1.cell 2;simp only [List.getElem?_toArray,List.getElem?_cons_zero,List.getElem?_cons_succ] at c0 c1 c2;have hs:=HC.out.less w6 ⟨oneI,some ⟨w.heap.size,0,none⟩,1⟩ ⟨oneI,some ⟨w.heap.size,0,none⟩,1⟩ k.2.2.1 k.2.2.1
 dsimp only at hs
 rw [show lessI oneI oneI=false by decide] at hs
 have HS3:=Lib.hid hs;clear k hs hb6 HS2
 go_wp2_with fail
 refine HS3.out.mono ?_
 rintro e w7 ⟨rfl,hb7⟩;have HB7:=Lib.hid (HB4.out.trans ((HB6.out.trans (hb7.mono HB6.out.size)).mono HB4.out.size));clear hb7 c0 c1 c2
 go_wp2
 go_ret
 exact ⟨rfl,HB7.out⟩
end Go.Proofs.Ytpdpgjilalojjaa.Itm
end
section
namespace Go.Proofs.Ytpdpgjilalojjaa.Walk
open Go.ChangeShapes Go.WideShapes Go.ChangeAt Go.RowKit Base Byt Txt Bk Rec Block Mem Tre Itm Go.Lib
set_option linter.unusedVariables false
set_option maxRecDepth 100000
theorem items_one {w:World} {g:Nat} {x:IP} (h:Blk w g 24 x.cs) (hb:DatAt w x):ItemsAt w (some ⟨g,0,none⟩) 1 [x]:=by
 have h2:Blk w g 24 (flatJ [x]).toArray:=by
  have e:(flatJ [x]).toArray=x.cs:=by unfold flatJ;simp
  rw [e];exact h
 exact Ri.items ⟨_,h2,by rw [List.size_toArray,flatJ_length];exact Nat.le_refl _,fun i hi j hj => by rw [List.getElem?_toArray];exact flatJ_get [x] i hi j hj⟩ (fun y hy => by rw [List.mem_singleton.1 hy];exact hb)
set_option maxHeartbeats 8000000 in
theorem recPutsC (H:ItmC4) (x:IP) (p:Option Addr) (n c:Nat) (zs:List Int) (w:World) (ba:DatAt w x) (wi:WfI x.m) (ri:RoomI x) (w1:IsRow .u8 w p n c zs) (b1:c * 1≤140737488351232) :
 Calls Try.prog 3 #[.agg x.cs,.slice p n c] w fun e w' => e=.returned (.bool true)∧Below w.heap.size w w':=by
 obtain ⟨hb,hl,hc,hm⟩:=bat_of_row w1;obtain ⟨bs,hbs⟩:∃ bs,bytesOf (zs.take n)=bs:=⟨_,rfl⟩;rw [hbs] at hb hl;have HC:=Lib.hid H;have HBT:=Lib.hid hb;have HL:=Lib.hid hl;have HWI:=Lib.hid wi;have HRI:=Lib.hid ri;obtain ⟨W1,hW1⟩:∃ W1,w.alloc (.cells x.cs 24)=W1:=⟨_,rfl⟩;have hb1:Below w.heap.size w W1:=by rw [← hW1];exact (Below.refl _ _).alloc (Nat.le_refl _) _
 have hx1:Blk W1 w.heap.size 24 x.cs:=by rw [← hW1];exact Blk.new w _ _
 obtain ⟨W2,hW2⟩:∃ W2,W1.alloc (.cells x.cs 24)=W2:=⟨_,rfl⟩;have hb2:Below W1.heap.size W1 W2:=by rw [← hW2];exact (Below.refl _ _).alloc (Nat.le_refl _) _
 have hx2:Blk W2 W1.heap.size 24 x.cs:=by rw [← hW2];exact Blk.new W1 _ _
 have hb12:Below w.heap.size w W2:=hb1.trans (hb2.mono hb1.size);have hlt:=lightJ_any (some ⟨W1.heap.size,0,none⟩) 1 1 [x] W2 (items_one hx2 (ba.below hb12)) (by decide) (fun u hu => by rw [List.mem_singleton.1 hu];exact ri)
 obtain ⟨g,hg⟩:∃ g,lightJ ([x].map IP.m)=g:=⟨_,rfl⟩;rw [hg] at hlt;have HG:=Lib.hid hg;have HLT:=Lib.hid hlt;have HB2:=Lib.hid hb12
 have HX:Hid (∀ w',Below W2.heap.size W2 w' → Blk w' w.heap.size 24 x.cs∧DatAt w' x):=Lib.hid (fun w' h => by
  have h2:=hx1.below hb2 hx1.lt
  exact ⟨h2.below h h2.lt,(ba.below hb12).below h⟩)
 have c0:=hx1.cell 0;have c1:=hx1.cell 1;have c2:=hx1.cell 2;simp only [IP.cs,itmC,List.getElem?_toArray,List.getElem?_cons_zero,List.getElem?_cons_succ] at c0 c1 c2;unfold IP.cs itmC at hW1 hW2 ⊢;clear w1 hbs hb hl H wi ri ba hb1 hx1 hb2 hx2 hb12 hlt hg
 go_enter Try.func3,Try.ntmps3
 go_upto_region 1 with fail
 clear hW1
 go_wp2_with fail
 refine HLT.out.mono ?_
 rintro e w3 ⟨rfl,hb3⟩;have HB3:=Lib.hid (HB2.out.trans (hb3.mono HB2.out.size));have HX3:Hid (∀ w',Below w3.heap.size w3 w' → Blk w' w.heap.size 24 x.cs∧DatAt w' x):=Lib.hid (fun w' h => HX.out w' (hb3.trans (h.mono hb3.size)))
 clear hW2 hb3 c0 c1 c2 HLT HX
 cases g with
 | false =>
   go_wp2_with fail
   refine (ans13_any HC.out w3).mono ?_
   rintro e w6 ⟨rfl,hb6⟩;have HB6:=Lib.hid (HB3.out.trans (hb6.mono HB3.out.size));clear hb6
   go_wp2
   go_ret
   exact ⟨rfl,HB6.out⟩
 | true =>
   by_cases h1000:1000 < n
   ·have hz:(1000:Int) < (n:Int):=by omega
    go_wp2_with fail
    refine (ans13_any HC.out w3).mono ?_
    rintro e w6 ⟨rfl,hb6⟩;have HB6:=Lib.hid (HB3.out.trans (hb6.mono HB3.out.size));clear hb6
    go_wp2
    go_ret
    exact ⟨rfl,HB6.out⟩
   ·have hz:¬ (1000:Int) < (n:Int):=by omega
    have hf:=lightJ_facts HG.out;have HF:Hid (x.m.key.length≤200000∧x.m.data.length≤200000):=Lib.hid (hf.2 x.m (by simp))
    have k:=(HX3.out w3 (Below.refl _ _)).1;have c0:=k.cell 0;have c1:=k.cell 1;have c2:=k.cell 2;simp only [IP.cs,itmC,List.getElem?_toArray,List.getElem?_cons_zero,List.getElem?_cons_succ] at c0 c1 c2;have hp:=HC.out.put w3 x (HX3.out w3 (Below.refl _ _)).2 HWI.out (by have:=HF.out.1;omega) (by have:=HF.out.2;omega)
    unfold PutIPost IP.cs itmC at hp;have HP:=Lib.hid hp;have hm4:Hid (∀ w',Calls Try.prog 11 #[.agg #[.string (str x.m.key),.int .i64 x.m.seq,.slice x.p x.m.data.length x.c]] w' fun e w'' => e=.returned (.bool (mayI x.m))∧Below w'.heap.size w' w''):=Lib.hid (fun w' => rmay_any x w')
    clear k hp hf
    go_wp2_with fail
    refine HP.out.mono ?_
    rintro e w4 (⟨hmay,p4,c4,rfl,hle4,hmx4,hbt4,hb4⟩ | ⟨hmay,p4,c4,rfl,hb4⟩)
    ·have HB4:=Lib.hid (HB3.out.trans (hb4.mono HB3.out.size))
     have HX4:Hid (∀ w',Below w4.heap.size w4 w' → Blk w' w.heap.size 24 x.cs∧DatAt w' x):=Lib.hid (fun w' h => HX3.out w' (hb4.trans (h.mono hb4.size)))
     have HMAY:=Lib.hid hmay;obtain ⟨K,hK⟩:∃ K,(bytesI x.m).length=K:=⟨_,rfl⟩;have HK:=Lib.hid hK;have hK2:K≤400016:=by rw [← hK,bytesI_length];have:=HF.out;omega
     rw [hK] at hle4 hbt4 ⊢;have HBT4:=Lib.hid hbt4;rw [hmay] at hm4;have k:=(HX4.out w4 (Below.refl _ _)).1;clear c0 c1 c2;have c0:=k.cell 0;have c1:=k.cell 1;have c2:=k.cell 2;simp only [IP.cs,itmC,List.getElem?_toArray,List.getElem?_cons_zero,List.getElem?_cons_succ] at c0 c1 c2;clear k hmay hle4 hmx4 hbt4 hb4 HP hK
     go_wp2_with fail
     refine (hm4.out _).mono ?_
     rintro e w5 ⟨rfl,hb5⟩;have HB5:=Lib.hid (HB4.out.trans (hb5.mono HB4.out.size));have HX5:Hid (∀ w',Below w5.heap.size w5 w' → Blk w' w.heap.size 24 x.cs∧DatAt w' x):=Lib.hid (fun w' h => HX4.out w' (hb5.trans (h.mono hb5.size)))
     have HBT5:=Lib.hid (HBT4.out.below hb5);have HO0:Hid (OwnB (w5.alloc (.cells #[] 5)) w5.heap.size (.slice (some ⟨w5.heap.size,0,none⟩) 0 0) 0 []):=Lib.hid (World.ownsRow_made w5 #[] 0 (Nat.le_refl _) (by decide) rfl)
     have HBA:Hid (Below w5.heap.size w5 (w5.alloc (.cells #[] 5))):=Lib.hid ((Below.refl _ _).alloc (Nat.le_refl _) _);clear c0 c1 c2 hb5
     go_wp2_with (at_builtin;refine append_own rfl _ _ rfl w5.heap.size (.slice (some ⟨w5.heap.size,0,none⟩) 0 0) 0 [] rfl HO0.out p4 K c4 (bytesI x.m) rfl (HBT5.out.below HBA.out) HK.out (by omega) HBA.out.size ?_)
     intro v6 w6 hown hgrow;have HB6:=Lib.hid (own_grown HBA.out HO0.out (Nat.le_refl _) hgrow);have HO6:=Lib.hid hown;clear hown hgrow
     go_wp2_with (at_builtin;refine append_own rfl _ _ rfl w5.heap.size v6 K (bytesI x.m) rfl HO6.out p n c bs rfl (HBT.out.below (HB5.out.trans (HB6.out.mono HB5.out.size))) HL.out (by omega) HB6.out.size ?_)
     intro v7 w7 hown hgrow;have HB7:=Lib.hid (own_grown HB6.out HO6.out (Nat.le_refl _) hgrow);obtain ⟨p7,c7,rfl,hle7,hmx7,hbt7,hln7,_⟩:=OwnB.slice hown;have hgt:=HC.out.get w7 p7 (K+n) c7 (bytesI x.m++bs) hbt7 hln7 hle7 hmx7 (by omega)
     unfold GetIPost itmC at hgt;rw [begins_bytes HMAY.out bs,HK.out] at hgt
     dsimp only at hgt
     have HGT:=Lib.hid hgt;clear hown hgrow hle7 hmx7 hbt7 hln7 hgt
     go_wp2_with fail
     refine HGT.out.mono ?_
     rintro e w8 ⟨q8,d8,rfl,hd8,hb8⟩;have HB8:=Lib.hid (HB7.out.trans (hb8.mono HB7.out.size));obtain ⟨W9,hW9⟩:∃ W9,w8.alloc (.cells #[.string (str x.m.key),.int .i64 x.m.seq,.slice q8 x.m.data.length d8] 24)=W9:=⟨_,rfl⟩;have h89:Below w8.heap.size w8 W9:=by rw [← hW9];exact (Below.refl _ _).alloc (Nat.le_refl _) _
     have hY9:Blk W9 w8.heap.size 24 #[.string (str x.m.key),.int .i64 x.m.seq,.slice q8 x.m.data.length d8]:=by rw [← hW9];exact Blk.new w8 _ _
     have h59:Below w5.heap.size w5 W9:=HB8.out.trans (h89.mono HB8.out.size);obtain ⟨ds,hds⟩:∃ ds,str (bytesI x.m)=ds:=⟨_,rfl⟩;have HDS:=Lib.hid hds
     have HALL:Hid (∀ w',Below W9.heap.size W9 w' → ((w'.cell? ⟨w.heap.size,0,none⟩=some (.string (str x.m.key))∧w'.cell? ⟨w.heap.size,1,none⟩=some (.int .i64 x.m.seq)∧w'.cell? ⟨w.heap.size,2,none⟩=some (.slice x.p x.m.data.length x.c)) ∧
      (w'.cell? ⟨w8.heap.size,0,none⟩=some (.string (str x.m.key))∧w'.cell? ⟨w8.heap.size,1,none⟩=some (.int .i64 x.m.seq)∧w'.cell? ⟨w8.heap.size,2,none⟩=some (.slice q8 x.m.data.length d8))) ∧
      Sem.run Try.prog (convert 22 9 (.slice p4 K c4)) w'=.ok (.string ds) w'):=Lib.hid (fun w' h => by
      have h5:Below w5.heap.size w5 w':=h59.trans (h.mono h59.size);have k:=(HX5.out w' h5).1;have l:=hY9.below h hY9.lt;refine ⟨⟨⟨k.cell 0,k.cell 1,k.cell 2⟩,l.cell 0,l.cell 1,l.cell 2⟩,?_⟩;have:=conv_at (P:=Try.prog) (HBT5.out.below h5) HK.out _ _ _ Try.underlying22 Try.underlying5 Try.underlying9 c4;rw [← hds]
      exact this)
     have HDD:Hid (∀ w',Below W9.heap.size W9 w' → DatAt w' x∧DatAt w' ⟨x.m,q8,d8⟩):=Lib.hid (fun w' h => ⟨(HX5.out w' (h59.trans (h.mono h59.size))).2,(hd8.below h89).below h⟩)
     have HB9:=Lib.hid (HB5.out.trans (h59.mono HB5.out.size));have HBB:Hid (Below W9.heap.size W9 W9.drew):=Lib.hid (below_drewN (Below.refl W9.heap.size W9) 1)
     have HSM:Hid (∀ w',Below W9.heap.size W9 w' → Calls Try.prog 14 #[.agg #[.string (str x.m.key),.int .i64 x.m.seq,.slice x.p x.m.data.length x.c],.agg #[.string (str x.m.key),.int .i64 x.m.seq,.slice q8 x.m.data.length d8]] w' fun e w'' => e=.returned (.bool true)∧Below w'.heap.size w' w''):=Lib.hid (fun w' h => by
      have:=rsame_any x ⟨x.m,q8,d8⟩ w' (HDD.out w' h).1 (HDD.out w' h).2
      dsimp only at this
      rw [decide_eq_true rfl] at this
      exact this)
     have HBS:Hid (∀ w',Below W9.heap.size W9 w' → Calls Try.prog 13 #[.agg #[.string (str x.m.key),.int .i64 x.m.seq,.slice x.p x.m.data.length x.c]] w' (RowPost w' (bytesI x.m))):=Lib.hid (fun w' h => rbytes_any x w' (HDD.out w' h).1 HMAY.out)
     have e1:((K:Int) == (K:Int))=true:=by simp
     have e2:(ds.toList == ds.toList)=true:=by simp
     clear hd8 hb8 h89 hY9 h59 hds HGT
     go_upto_region 7 with fail
     clear hW9
     go_region_held_law (fun w' => ((w'.cell? ⟨w.heap.size,0,none⟩=some (.string (str x.m.key))∧w'.cell? ⟨w.heap.size,1,none⟩=some (.int .i64 x.m.seq)∧w'.cell? ⟨w.heap.size,2,none⟩=some (.slice x.p x.m.data.length x.c)) ∧
      (w'.cell? ⟨w8.heap.size,0,none⟩=some (.string (str x.m.key))∧w'.cell? ⟨w8.heap.size,1,none⟩=some (.int .i64 x.m.seq)∧w'.cell? ⟨w8.heap.size,2,none⟩=some (.slice q8 x.m.data.length d8))) ∧
      Sem.run Try.prog (convert 22 9 (.slice p4 K c4)) w'=.ok (.string ds) w') (exact HALL.out _ HBB.out) (first
      | (go_at_call 9
         refine (ans13_any HC.out _).mono ?_
         rintro e wa ⟨rfl,hba⟩;have HBB:=Lib.hid (HBB.out.trans (hba.mono HBB.out.size))
         clear hba)
      | (go_at_call 13
         refine (HBS.out _ HBB.out).mono ?_
         rintro e wp ⟨vp,rfl,hop,hkp⟩;rw [HK.out] at hop;obtain ⟨pp,cp,rfl,_,_,hbp,hlp,_⟩:=hop.slice
         have cs1:Sem.run Try.prog (convert 22 9 (.slice pp K cp)) wp=.ok (.string ds) wp:=by
          rw [← HDS.out];exact conv_at hbp hlp 22 5 9 Try.underlying22 Try.underlying5 Try.underlying9 cp
         have HBB:=Lib.hid (HBB.out.trans (hkp.mono HBB.out.size))
         clear hop hkp hbp hlp)
      | (go_at_call 14
         refine (HSM.out _ HBB.out).mono ?_
         rintro e ws ⟨rfl,hbs⟩;have HBB:=Lib.hid (HBB.out.trans (hbs.mono HBB.out.size))
         clear hbs))
     all_goals
      have FIN:=Lib.hid (HB9.out.trans (HBB.out.mono HB9.out.size))
      go_wp2
      go_ret
      exact ⟨rfl,FIN.out⟩
    ·have HB4:=Lib.hid (HB3.out.trans (hb4.mono HB3.out.size))
     rw [hmay] at hm4;have k:=(HX3.out w4 hb4).1;clear c0 c1 c2;have c0:=k.cell 0;have c1:=k.cell 1;have c2:=k.cell 2;simp only [IP.cs,itmC,List.getElem?_toArray,List.getElem?_cons_zero,List.getElem?_cons_succ] at c0 c1 c2;clear k hb4 HP hmay
     go_wp2_with fail
     refine (hm4.out _).mono ?_
     rintro e w5 ⟨rfl,hb5⟩;have HB5:=Lib.hid (HB4.out.trans (hb5.mono HB4.out.size));clear hb5 c0 c1 c2
     go_wp2_with fail
     refine (ans13_any HC.out w5).mono ?_
     rintro e w6 ⟨rfl,hb6⟩;have HB6:=Lib.hid (HB5.out.trans (hb6.mono HB5.out.size));clear hb6
     go_wp2
     go_ret
     exact ⟨rfl,HB6.out⟩
end Go.Proofs.Ytpdpgjilalojjaa.Walk
end
section
namespace Go.Proofs.Ytpdpgjilalojjaa.Walk
open Go.ChangeShapes Go.WideShapes Go.ChangeAt Go.RowKit Base Byt Bk Itm Go.Lib
set_option linter.unusedVariables false
theorem recPuts (x:IP) (p:Option Addr) (n c:Nat) (zs:List Int) (w:World) (ba:DatAt w x) (wi:WfI x.m) (ri:RoomI x) (w1:IsRow .u8 w p n c zs) (b1:c * 1≤140737488351232) :
 Calls Try.prog 3 #[.agg x.cs,.slice p n c] w fun e w' => e=.returned (.bool true)∧Below w.heap.size w w':=recPutsC itemC4 x p n c zs w ba wi ri w1 b1
end Go.Proofs.Ytpdpgjilalojjaa.Walk
end
