/- Texts of this seat, merged: what the proof reaches. -/
import Derived.Test.YtpdpgjilalojjaaRecRowX16
import Derived.BigQuiet
import Derived.Lib.SlBytesConst
import Derived.Test.YtpdpgjilalojjaaRecRowX15
import Derived.Test.YtpdpgjilalojjaaRecRowX4
namespace Go.Proofs.Ytpdpgjilalojjaa
namespace Base
end Base
namespace Bk
end Bk
namespace Block
end Block
namespace Byt
end Byt
namespace Itm
end Itm
namespace Mem
end Mem
namespace Rec
end Rec
namespace Tre
end Tre
namespace Txt
end Txt
end Go.Proofs.Ytpdpgjilalojjaa
section
namespace Go.Proofs.Ytpdpgjilalojjaa.Itm
open Go.ChangeShapes Go.WideShapes Go.ChangeAt Go.RowKit Base Byt Txt Bk Rec Block Mem Tre Go.Lib
set_option linter.unusedVariables false
set_option maxRecDepth 100000
def sumJ (ms:List ItemV):Nat:=(ms.map fun m => m.key.length+m.data.length).sum
def lightJ (ms:List ItemV):Bool:=decide (ms.length≤200) && decide (sumJ ms≤200000)
theorem sumJ_snoc (ms:List ItemV) (m:ItemV):sumJ (ms++[m])=sumJ ms+m.key.length+m.data.length:=by simp [sumJ];omega
theorem sumJ_mem {ms:List ItemV} {m:ItemV} (h:m ∈ ms):m.key.length+m.data.length≤sumJ ms:=by
 induction ms with
 | nil => cases h
 | cons x ms ih =>
   unfold sumJ at ih ⊢;rw [List.map_cons,List.sum_cons];rcases List.mem_cons.1 h with rfl | h
   ·omega
   ·have:=ih h;omega
theorem lightJ_facts {ms:List ItemV} (h:lightJ ms=true):ms.length≤200 ∧ ∀ m ∈ ms,m.key.length≤200000∧m.data.length≤200000:=by
 unfold lightJ at h;rw [Bool.and_eq_true,decide_eq_true_eq,decide_eq_true_eq] at h;exact ⟨h.1,fun m hm => by have:=sumJ_mem hm;omega⟩
set_option maxHeartbeats 4000000 in
theorem lightJ_any (p:Option Addr) (n c:Nat) (xs:List IP) (w:World) (hM:ItemsAt w p n xs) (hn:n≤140737488351232) (hR:∀ x ∈ xs,RoomI x) :
 Calls Try.prog 8 #[.slice p n c] w fun e w' => e=.returned (.bool (lightJ (xs.map IP.m)))∧Below w.heap.size w w':=by
 have HM:=Lib.hid hM;have HL:=Lib.hid hM.1;have HR:=Lib.hid hR;clear hM hR
 by_cases h200:n≤200
 ·go_enter Try.func8,Try.ntmps8
  go_wp2
  go_loopw [3,4] (fun s i wr => ∃ (k S:Nat),k≤n∧i=.int .i64 (k:Int)∧s=.int .i64 (S:Int)∧S≤k * 281474976702464∧Hid (sumJ ((xs.take k).map IP.m)=S)∧Hid (Below w.heap.size w wr)) (fun _ i _ => n - (RowKit.intOf i).toNat)
  case atStart => exact ⟨0,0,Nat.zero_le _,rfl,rfl,Nat.zero_le _,Lib.hid rfl,Lib.hid (Below.refl _ _)⟩
  case round =>
   obtain ⟨k,S,hk,rfl,rfl,hS,hE,hB⟩:=hrel
   by_cases hlt:k < n
   ·have hlx:k < xs.length:=by rw [HL.out];exact hlt
    have hT:=takeJ_succ xs k hlx;have hrm:=HR.out _ (getJ_mem xs k hlx);obtain ⟨b,o,rfl,hb,hBd,hc⟩:=(HM.out.below hB.out).cells3 hlt;obtain ⟨y,hy⟩:∃ y,xs.getD k zeroJ=y:=⟨_,rfl⟩;rw [hy] at hT hrm hBd hc;obtain ⟨c0,c1,c2⟩:=hc;have hs0:(str y.m.key).size=y.m.key.length:=str_size _;obtain ⟨kl,hkl⟩:∃ kl,y.m.key.length=kl:=⟨_,rfl⟩;obtain ⟨dl,hdl⟩:∃ dl,y.m.data.length=dl:=⟨_,rfl⟩;have hkb:kl≤140737488351232:=by rw [← hkl];exact hrm.1
    have hdb:dl≤140737488351232:=by rw [← hdl];have:=hBd.le;have:=hrm.2;omega
    rw [hkl] at hs0;rw [hdl] at c2;have HT:Hid (sumJ ((xs.take (k+1)).map IP.m)=S+kl+dl):=Lib.hid (by rw [hT,sumJ_snoc,hE.out,hkl,hdl])
    have HS2:Hid (S+kl+dl≤(k+1) * 281474976702464):=Lib.hid (by omega)
    have hltz:(k:Int) < (n:Int):=by omega
    have q1:IntKind.i64.wrap ((S:Int)+(kl:Int))=((S+kl:Nat):Int):=by rw [IntKind.wrap_i64];omega
    have q2:IntKind.i64.wrap (((S+kl:Nat):Int)+(dl:Int))=((S+kl+dl:Nat):Int):=by rw [IntKind.wrap_i64];omega
    obtain ⟨A,hA⟩:∃ A,S+kl=A:=⟨_,rfl⟩;obtain ⟨B,hB2⟩:∃ B,S+kl+dl=B:=⟨_,rfl⟩;rw [hA] at q1;rw [hB2,hA] at q2;rw [hB2] at HT HS2;clear hT hb hy hlx hrm hBd c1 hkl hdl hA hB2
    go_upto_region 5 with fail
    go_quiet (fail)
    go_wp2
    go_roundw
    case rel => exact ⟨k+1,B,by omega,by go_num,rfl,HS2.out,HT,Lib.hid (below_drewN hB.out _)⟩
    case measure => simp [RowKit.intOf];omega
   ·obtain rfl:k=n:=by omega
    have hks:¬ ((k:Int) < (k:Int)):=by omega
    have hz1:(k:Int)≤200:=by omega
    have hSS:sumJ (xs.map IP.m)=S:=by
     rw [← hE.out,List.take_of_length_le (by rw [HL.out];exact Nat.le_refl _)]
    by_cases h2:S≤200000
    ·have hz2:decide ((S:Int)≤200000)=true:=decide_eq_true (by omega)
     have E:Hid (lightJ (xs.map IP.m)=true):=Lib.hid (by unfold lightJ;rw [hSS,List.length_map,HL.out,decide_eq_true h200,decide_eq_true h2];rfl)
     clear hSS
     go_wp2
     go_ret
     exact ⟨by rw [E.out];rfl,hB.out⟩
    ·have hz2:decide ((S:Int)≤200000)=false:=decide_eq_false (by omega)
     have E:Hid (lightJ (xs.map IP.m)=false):=Lib.hid (by unfold lightJ;rw [hSS,decide_eq_false h2,Bool.and_false])
     clear hSS
     go_wp2
     go_ret
     exact ⟨by rw [E.out];rfl,hB.out⟩
 ·have E:Hid (lightJ (xs.map IP.m)=false):=Lib.hid (by unfold lightJ;rw [List.length_map,HL.out,decide_eq_false h200,Bool.false_and])
  go_enter Try.func8,Try.ntmps8
  go_wp2
  go_loopw [3,4] (fun s i wr => ∃ (k:Nat) (S:Int),k≤n∧i=.int .i64 (k:Int)∧s=.int .i64 S∧Hid (Below w.heap.size w wr)) (fun _ i _ => n - (RowKit.intOf i).toNat)
  case atStart => exact ⟨0,0,Nat.zero_le _,rfl,rfl,Lib.hid (Below.refl _ _)⟩
  case round =>
   obtain ⟨k,S,hk,rfl,rfl,hB⟩:=hrel
   by_cases hlt:k < n
   ·have hlx:k < xs.length:=by rw [HL.out];exact hlt
    obtain ⟨b,o,rfl,hb,hBd,hc⟩:=(HM.out.below hB.out).cells3 hlt;obtain ⟨y,hy⟩:∃ y,xs.getD k zeroJ=y:=⟨_,rfl⟩;rw [hy] at hBd hc;obtain ⟨c0,c1,c2⟩:=hc;have hs0:(str y.m.key).size=y.m.key.length:=str_size _;obtain ⟨kl,hkl⟩:∃ kl,y.m.key.length=kl:=⟨_,rfl⟩;obtain ⟨dl,hdl⟩:∃ dl,y.m.data.length=dl:=⟨_,rfl⟩;rw [hkl] at hs0;rw [hdl] at c2;have hltz:(k:Int) < (n:Int):=by omega
    obtain ⟨A,hA⟩:∃ A,IntKind.i64.wrap (S+(kl:Int))=A:=⟨_,rfl⟩;obtain ⟨B,hB2⟩:∃ B,IntKind.i64.wrap (A+(dl:Int))=B:=⟨_,rfl⟩;clear hb hy hlx hBd c1 hkl hdl
    go_upto_region 5 with fail
    go_quiet (fail)
    go_wp2
    go_roundw
    case rel => exact ⟨k+1,B,by omega,by go_num,rfl,Lib.hid (below_drewN hB.out _)⟩
    case measure => simp [RowKit.intOf];omega
   ·obtain rfl:k=n:=by omega
    have hks:¬ ((k:Int) < (k:Int)):=by omega
    have hz1:¬ ((k:Int)≤200):=by omega
    go_wp2
    go_ret
    exact ⟨by rw [E.out];rfl,hB.out⟩
def oneI:ItemV:=⟨[107],7,[100]⟩
theorem may_one:mayI oneI=true:=by decide
theorem bytes_one:(bytesI oneI).length=18:=by rw [bytesI_length];rfl
def aI:ItemV:=⟨[97],0,[]⟩
theorem begins_one:beginsI (bytesI oneI)=(oneI,18,true):=by
 have h:=begins_bytes may_one [];rw [List.append_nil,bytes_one] at h;exact h
theorem dat_a (w:World):DatAt w ⟨aI,none,0⟩:=⟨fun h => absurd h (by decide),Nat.le_refl _,by show (0:Nat)≤maxLen;decide⟩
set_option maxHeartbeats 4000000 in
theorem ans13_any (H:ItmC4) (w:World) :
 Calls Try.prog 9 #[] w fun e w' => e=.returned (.bool true)∧Below w.heap.size w w':=by
 have kc:(convert 22 22 (.slice (some ⟨w.heap.size,0,none⟩) 1 1)).run Try.prog (w.alloc (.cells #[.int .u8 100] 5))=.ok (.slice (some ⟨w.heap.size,0,none⟩) 1 1) (w.alloc (.cells #[.int .u8 100] 5 (1,2))):=
  Lib.run_convert_bytes_const (P:=Try.prog) w 22 5 #[.int .u8 100] 1 1 Try.underlying22 Try.underlying5
 obtain ⟨W1,hW1⟩:∃ W1,(w.alloc (.cells #[.int .u8 100] 5 (1,2))).alloc (.cells #[.string ⟨#[107]⟩,.int .i64 7,.slice (some ⟨w.heap.size,0,none⟩) 1 1] 24)=W1:=⟨_,rfl⟩;have hB1:Below w.heap.size w W1:=by rw [← hW1];exact ((Below.refl _ w).alloc (Nat.le_refl _) _).alloc (by simp) _
 have hb1:Blk W1 (w.heap.size+1) 24 #[.string ⟨#[107]⟩,.int .i64 7,.slice (some ⟨w.heap.size,0,none⟩) 1 1]:=by
  have:=Blk.new (w.alloc (.cells #[.int .u8 100] 5 (1,2))) 24 #[.string ⟨#[107]⟩,.int .i64 7,.slice (some ⟨w.heap.size,0,none⟩) 1 1];rw [World.size_alloc] at this;rw [← hW1];exact this
 have ht1:BAt W1 (some ⟨w.heap.size,0,none⟩) 1 [100]:=fun _ => ⟨w.heap.size,0,rfl,fun i hi => by
  obtain rfl:i=0:=by omega
  rw [← hW1]
  have:(w.alloc (.cells #[.int .u8 100] 5 (1,2))).cell? ⟨w.heap.size,0,none⟩=some (.int .u8 100):=by
   unfold World.cell?;rw [heap_alloc_new];rfl
  exact (((Below.refl (w.heap.size+1) (w.alloc (.cells #[.int .u8 100] 5 (1,2)))).alloc (by simp) _).cell (p:=⟨w.heap.size,0,none⟩) (by show w.heap.size < w.heap.size+1;omega)).trans this⟩
 have hdx:DatAt W1 ⟨oneI,some ⟨w.heap.size,0,none⟩,1⟩:=⟨ht1,by show (1:Nat)≤1;decide,by show (1:Nat)≤maxLen;decide⟩
 have hp1:=H.put W1 ⟨oneI,some ⟨w.heap.size,0,none⟩,1⟩ hdx (by show (Lit.int .i64 7).wf=true;decide) (by show (1:Nat)≤_;decide) (by show (1:Nat)≤_;decide)
 unfold PutIPost at hp1
 dsimp only at hp1
 rw [bytes_one] at hp1;have HP1:=Lib.hid hp1;have HC:=Lib.hid H;have HW1:=Lib.hid hW1;have HB1:=Lib.hid hB1;have HX:=Lib.hid hb1;have HDX:=Lib.hid hdx;clear hW1 hB1 hb1 ht1 hp1 H hdx
 go_enter Try.func9,Try.ntmps9
 go_upto_region 2 with fail
 rw [HW1.out];have c0:=HX.out.cell 0;have c1:=HX.out.cell 1;have c2:=HX.out.cell 2;simp only [List.getElem?_toArray,List.getElem?_cons_zero,List.getElem?_cons_succ] at c0 c1 c2
 go_wp2_with fail
 refine HP1.out.mono ?_
 rintro e w2 (⟨_,p2,c2,rfl,hle2,hmx2,hbt2,hb2⟩ | ⟨hf,_⟩)
 rotate_left
 ·exact absurd may_one (by rw [hf];decide)
 have HB2:=Lib.hid (HB1.out.trans (hb2.mono HB1.out.size));have hg:=HC.out.get w2 p2 18 c2 (bytesI oneI) hbt2 bytes_one hle2 hmx2 (by decide)
 unfold GetIPost at hg;rw [begins_one] at hg;have HG:Hid (Calls Try.prog 12 #[.slice p2 18 c2] w2 fun e w' => ∃ q d,e=.returned (.tuple #[.agg #[.string ⟨#[107]⟩,.int .i64 7,.slice q 1 d],.int .i64 18,.bool true])∧DatAt w' ⟨oneI,q,d⟩∧Below w2.heap.size w2 w'):=Lib.hid hg
 have HX2:=Lib.hid (HX.out.below hb2 HX.out.lt);have HDX2:=Lib.hid (HDX.out.below hb2);clear hle2 hmx2 hbt2 hb2 hg HP1 HW1 kc c0 c1
 go_wp2_with fail
 refine HG.out.mono ?_
 rintro e w3 ⟨q3,d3,rfl,hd3,hb3⟩;obtain ⟨W4,hW4⟩:∃ W4,w3.alloc (.cells #[.string ⟨#[107]⟩,.int .i64 7,.slice q3 1 d3] 24)=W4:=⟨_,rfl⟩;have h34:Below w3.heap.size w3 W4:=by rw [← hW4];exact (Below.refl _ _).alloc (Nat.le_refl _) _
 have hY4:Blk W4 w3.heap.size 24 #[.string ⟨#[107]⟩,.int .i64 7,.slice q3 1 d3]:=by rw [← hW4];exact Blk.new w3 _ _
 have hX3:=HX2.out.below hb3 HX2.out.lt
 have HBY:Hid (∀ w',Below W4.heap.size W4 w' → Blk w' (w.heap.size+1) 24 #[.string ⟨#[107]⟩,.int .i64 7,.slice (some ⟨w.heap.size,0,none⟩) 1 1]∧Blk w' w3.heap.size 24 #[.string ⟨#[107]⟩,.int .i64 7,.slice q3 1 d3]∧DatAt w' ⟨oneI,some ⟨w.heap.size,0,none⟩,1⟩∧DatAt w' ⟨oneI,q3,d3⟩):=Lib.hid (fun w' h => by
  have hX4:=hX3.below h34 hX3.lt
  exact ⟨hX4.below h hX4.lt,hY4.below h hY4.lt,((HDX2.out.below hb3).below h34).below h,(hd3.below h34).below h⟩)
 have HB4:=Lib.hid ((HB2.out.trans (hb3.mono HB2.out.size)).trans (h34.mono (by have:=hb3.size;have:=HB2.out.size;omega)))
 clear hd3 hb3 h34 hY4 hX3
 go_upto_region 4 with fail
 clear hW4;have k:=HBY.out W4 (Below.refl _ _);have c0:=k.1.cell 0;have c1:=k.1.cell 1;have c2:=k.1.cell 2;have d0:=k.2.1.cell 0;have d1:=k.2.1.cell 1;have d2:=k.2.1.cell 2;simp only [List.getElem?_toArray,List.getElem?_cons_zero,List.getElem?_cons_succ] at c0 c1 c2 d0 d1 d2;have hs:=HC.out.same W4 ⟨oneI,some ⟨w.heap.size,0,none⟩,1⟩ ⟨oneI,q3,d3⟩ k.2.2.1 k.2.2.2
 dsimp only at hs
 rw [show decide (oneI=oneI)=true from rfl] at hs
 have HS:=Lib.hid hs;clear k hs
 go_wp2_with fail
 refine HS.out.mono ?_
 rintro e w5 ⟨rfl,hb5⟩;clear c0 c1 c2 d0 d1 d2;have k:=HBY.out w5 hb5;have c0:=k.1.cell 0;have c1:=k.1.cell 1;have c2:=k.1.cell 2;simp only [List.getElem?_toArray,List.getElem?_cons_zero,List.getElem?_cons_succ] at c0 c1 c2;have hs:=HC.out.less w5 ⟨aI,none,0⟩ ⟨oneI,some ⟨w.heap.size,0,none⟩,1⟩ (dat_a _) k.2.2.1
 dsimp only at hs
 rw [show lessI aI oneI=true by decide] at hs
 have HS2:=Lib.hid hs;have HB5:=Lib.hid hb5;clear k hs hb5 HS
 go_wp2_with fail
 refine HS2.out.mono ?_
 rintro e w6 ⟨rfl,hb6⟩;clear c0 c1 c2;have HB6:=Lib.hid (HB5.out.trans (hb6.mono HB5.out.size));have k:=HBY.out w6 HB6.out;have c0:=k.1.cell 0;have c1:=k.1.cell 1;have c2:=k.1.cell 2;simp only [List.getElem?_toArray,List.getElem?_cons_zero,List.getElem?_cons_succ] at c0 c1 c2;have hs:=HC.out.less w6 ⟨oneI,some ⟨w.heap.size,0,none⟩,1⟩ ⟨oneI,some ⟨w.heap.size,0,none⟩,1⟩ k.2.2.1 k.2.2.1
 dsimp only at hs
 rw [show lessI oneI oneI=false by decide] at hs
 have HS3:=Lib.hid hs;clear k hs hb6 HS2
 go_wp2_with fail
 refine HS3.out.mono ?_
 rintro e w7 ⟨rfl,hb7⟩;have HB7:=Lib.hid (HB4.out.trans ((HB6.out.trans (hb7.mono HB6.out.size)).mono HB4.out.size));clear hb7 c0 c1 c2
 go_wp2
 go_ret
 exact ⟨rfl,HB7.out⟩
end Go.Proofs.Ytpdpgjilalojjaa.Itm
end
section
namespace Go.Proofs.Ytpdpgjilalojjaa.Walk
open Go.ChangeShapes Go.WideShapes Go.ChangeAt Go.RowKit Base Byt Txt Bk Rec Block Mem Tre Itm Go.Lib
set_option linter.unusedVariables false
set_option maxRecDepth 100000
attribute [local irreducible] wpQuiet
structure RowJ (w wr:World) (L:List ItemV) (k:Nat) (bv ev:Value):Prop where
 bel:Below w.heap.size w wr
 b:OwnB wr w.heap.size bv (rowI (L.take k)).length (rowI (L.take k))
 e:wr.ownsRow w.heap.size 3 1 ev k (endsI L k)
 may:∀ x ∈ L.take k,mayI x=true
theorem rowI_len {l:List ItemV} (h:∀ m ∈ l,m.key.length≤200000∧m.data.length≤200000):(rowI l).length≤l.length * 400016:=by
 induction l with
 | nil => exact Nat.le_refl _
 | cons x l ih =>
   have h1:=ih fun m hm => h m (List.mem_cons_of_mem _ hm)
   have h2:=h x (List.mem_cons_self ..);have e:rowI (x :: l)=bytesI x++rowI l:=rfl;rw [e,List.length_append,bytesI_length,List.length_cons];omega
theorem wf16 {n:Int} (h:(Lit.int .u16 n).wf=true):0≤n∧n≤65535:=by
 have h1:IntKind.u16.min=0:=rfl;have h2:IntKind.u16.max=65535:=rfl;simp only [Lit.wf,Bool.and_eq_true,decide_eq_true_eq] at h;omega
theorem ends_open {w:World} {B n:Nat} {v:Value} {xs:List Value} (h:w.ownsRow B 3 1 v n xs) (h0:0 < n):∃ g c,v=.slice (some ⟨g,0,none⟩) n c∧n≤c∧g < w.heap.size ∧ ∀ i,i < n → w.cell? ⟨g,i,none⟩=xs[i]?:=by
 rcases h.2 with ⟨_,h1⟩ | ⟨g,cap,cur,h1,hb,hg,h2,h3,h4,h5⟩
 ·omega
 ·refine ⟨g,cap,h1,h2,(Array.getElem?_eq_some_iff.1 hg).1,fun i hi => ?_⟩
  unfold World.cell?;rw [hg,← h5,List.getElem?_take,if_pos (by omega)]
  simp
set_option maxHeartbeats 8000000 in
theorem recRowC (H:ItmC4) (p:Option Addr) (n c:Nat) (xs:List IP) (cut:Int) (w:World) (ma:ItemsAt w p n xs) (lc:n≤c) (cm:c≤maxLen) (by0:c * 48≤140737488351232) (rm:∀ x ∈ xs,WfI x.m∧RoomI x) (wf:(Lit.int .u16 cut).wf=true) :
 Calls Try.prog 7 #[.slice p n c,.int .u16 cut] w fun e w' => e=.returned (.bool true)∧Below w.heap.size w w':=by
 obtain ⟨u0,u1⟩:=wf16 wf;have HC:=Lib.hid H;have HM:=Lib.hid ma;have HLN:=Lib.hid ma.1;obtain ⟨L,hL⟩:∃ L,xs.map IP.m=L:=⟨_,rfl⟩;have HLL:Hid (L.length=n):=Lib.hid (by rw [← hL,List.length_map];exact ma.1)
 have HGE:Hid (∀ k,(xs.getD k zeroJ).m=L.getD k zeroI):=Lib.hid (fun k => by rw [← hL,getJ_map])
 have hl:=lightJ_any p n c xs w ma (by omega) (fun x hx => (rm x hx).2)
 rw [hL] at hl;obtain ⟨g,hg⟩:∃ g,lightJ L=g:=⟨_,rfl⟩;rw [hg] at hl;have HG:=Lib.hid hg;have HL:=Lib.hid hl;clear H ma rm hg hl hL wf
 go_enter Try.func7,Try.ntmps7
 go_wp2_with fail
 refine HL.out.mono ?_
 rintro e w1 ⟨rfl,hb1⟩;have HB1:=Lib.hid hb1;clear hb1 HL
 cases g with
 | false =>
   go_wp2_with fail
   refine (ans13_any HC.out w1).mono ?_
   rintro e w6 ⟨rfl,hb6⟩;have HB6:=Lib.hid (HB1.out.trans (hb6.mono HB1.out.size));clear hb6
   go_wp2
   go_ret
   exact ⟨rfl,HB6.out⟩
 | true =>
   have hf:=lightJ_facts HG.out;rw [HLL.out] at hf;have hn200:n≤200:=hf.1;have HF:=Lib.hid hf.2
   have HRL:Hid (∀ k,(rowI (L.take k)).length≤80003200):=Lib.hid (fun k => by
    have h1:=rowI_len (l:=L.take k) (fun m hm => hf.2 m (List.mem_of_mem_take hm))
    rw [List.length_take,HLL.out] at h1;have:min k n≤200:=by omega
    omega)
   clear hf
   go_wp2_with fail
   go_loopw [5,6,7] (fun bv ev i wr => ∃ (k:Nat) (b' e':Value),k≤n∧b'=bv∧e'=ev∧i=.int .i64 (k:Int)∧Hid (RowJ w wr L k b' e')) (fun _ _ i _ => n - (RowKit.intOf i).toNat)
   case atStart => exact ⟨0,_,_,Nat.zero_le _,rfl,rfl,rfl,Lib.hid ⟨HB1.out,World.ownsRow_nil _ _ _ _,World.ownsRow_nil _ _ _ _,fun x hx => by cases hx⟩⟩
   case round =>
    obtain ⟨k,bv,ev,hk,rfl,rfl,rfl,hJ⟩:=hrel
    by_cases hlt:k < n
    ·have hkl:k < L.length:=by rw [HLL.out];exact hlt
     have HKL:=Lib.hid hkl;obtain ⟨b,o,rfl,hbw,hBd,hcc⟩:=(HM.out.below hJ.out.bel).cells3 hlt;obtain ⟨y,hy⟩:∃ y,xs.getD k zeroJ=y:=⟨_,rfl⟩;have HYM:Hid (y.m=L.getD k zeroI):=Lib.hid (by rw [← hy];exact HGE.out k)
     rw [hy] at hBd hcc;have HCC:Hid (∀ w',Below wr.heap.size wr w' → Cells3 w' b (o+k * 3) y∧DatAt w' y):=Lib.hid (fun w' h => ⟨hcc.below hbw h,hBd.below h⟩)
     obtain ⟨c0,c1,c2⟩:=hcc;have HMY:Hid (∀ w',Calls Try.prog 11 #[.agg #[.string (str y.m.key),.int .i64 y.m.seq,.slice y.p y.m.data.length y.c]] w' fun e w'' => e=.returned (.bool (mayI y.m))∧Below w'.heap.size w' w''):=Lib.hid (fun w' => rmay_any y w')
     obtain ⟨mg,hmg⟩:∃ mg,mayI y.m=mg:=⟨_,rfl⟩;rw [hmg] at HMY;have HMG:=Lib.hid hmg;have hltz:(k:Int) < (n:Int):=by omega
     clear hy hbw hBd hmg hkl
     go_wp2_with fail
     refine (HMY.out wr).mono ?_
     rintro e w2 ⟨rfl,hb2⟩;have HB2:=Lib.hid hb2;clear c0 c1 c2 hb2 HMY
     cases mg with
     | false =>
       have HBJ:=Lib.hid (hJ.out.bel.trans (HB2.out.mono hJ.out.bel.size))
       go_wp2_with fail
       refine (ans13_any HC.out w2).mono ?_
       rintro e w6 ⟨rfl,hb6⟩;have HB6:=Lib.hid (HBJ.out.trans (hb6.mono HBJ.out.size));clear hb6
       go_wp2
       go_ret
       exact ⟨rfl,HB6.out⟩
     | true =>
       obtain ⟨⟨c0,c1,c2⟩,hd2⟩:=HCC.out w2 HB2.out;have hby:=rbytes_any y w2 hd2 HMG.out;unfold IP.cs itmC at hby;have HBY:=Lib.hid hby;obtain ⟨B,hB⟩:∃ B,bytesI y.m=B:=⟨_,rfl⟩;have HBE:=Lib.hid hB;rw [hB] at HBY;obtain ⟨R,hR⟩:∃ R,rowI (L.take k)=R:=⟨_,rfl⟩;have HRE:=Lib.hid hR;have HR1:Hid (rowI (L.take (k+1))=R++B):=Lib.hid (by rw [rowI_succ HKL.out,hR,← HYM.out,hB])
       have HJB:Hid (OwnB wr w.heap.size bv R.length R∧wr.ownsRow w.heap.size 3 1 ev k (endsI L k)):=Lib.hid ⟨by rw [← hR];exact hJ.out.b,hJ.out.e⟩
       have hRB:R.length+B.length≤80003200:=by
        have:=HRL.out (k+1);rw [HR1.out,List.length_append] at this;exact this
       clear hby hd2 hB hR
       go_wp2_with fail
       refine HBY.out.mono ?_
       rintro e w3 ⟨v3,rfl,hov3,hb3⟩;obtain ⟨p3,c3,rfl,_,_,hbt3,_,_⟩:=hov3.slice;have HB3:=Lib.hid (HB2.out.trans (hb3.mono HB2.out.size));have HBW3:=Lib.hid (hJ.out.bel.trans (HB3.out.mono hJ.out.bel.size));have HO3:Hid (OwnB w3 w.heap.size bv R.length R∧w3.ownsRow w.heap.size 3 1 ev k (endsI L k)):=Lib.hid ⟨own_below HJB.out.1 HB3.out,row_below HJB.out.2 HB3.out⟩;have H3:=Lib.hid hbt3;clear hov3 hb3 hbt3 c0 c1 c2 HBY
       go_wp2_with (at_builtin;refine append_own rfl _ _ rfl w.heap.size bv R.length R rfl HO3.out.1 p3 B.length c3 B rfl H3.out rfl (by omega) HBW3.out.size ?_)
       intro v4 w4 hown hgrow;have HO4:Hid (OwnB w4 w.heap.size v4 (R.length+B.length) (R++B)∧w4.ownsRow w.heap.size 3 1 ev k (endsI L k)∧Below w.heap.size w w4):=Lib.hid ⟨hown,ownsRow_kept HO3.out.2 ((Kept.refl (fun b => bv.ownBlock=some b) w3).grown hgrow (fun k hk => .inr hk)) (fun g hg hs => rows_two HO3.out.1 HO3.out.2 g hs hg),own_grown HBW3.out HO3.out.1 (Nat.le_refl _) hgrow⟩
       obtain ⟨p4,c4,rfl,_,_,_,_,_⟩:=OwnB.slice hown;have HA:Hid (Below w4.heap.size w4 (w4.alloc (.cells #[.int .i64 ((R.length+B.length:Nat):Int)] 3))):=Lib.hid ((Below.refl _ _).alloc (Nat.le_refl _) _);have HBK:Hid (Blk (w4.alloc (.cells #[.int .i64 ((R.length+B.length:Nat):Int)] 3)) w4.heap.size 3 #[.int .i64 ((R.length+B.length:Nat):Int)]):=Lib.hid (Blk.new w4 _ _);obtain ⟨E,hE⟩:∃ E,R.length+B.length=E:=⟨_,rfl⟩;have HE:=Lib.hid hE;rw [hE] at HO4 HA HBK ⊢;clear hown hgrow hE
       go_wp2_with (at_builtin;refine append_int rfl _ _ rfl w.heap.size ev k (endsI L k) rfl (row_below HO4.out.2.1 HA.out) w4.heap.size 1 (E:Int) rfl HBK.out (by omega) (HO4.out.2.2.trans (HA.out.mono HO4.out.2.2.size)).size ?_)
       intro v5 w5 hown hgrow
       have HJ5:Hid (RowJ w w5 L (k+1) (.slice p4 E c4) v5):=Lib.hid (by
        have hba:=HO4.out.2.2.trans (HA.out.mono HO4.out.2.2.size);have hoa:=own_below HO4.out.1 HA.out;have hea:=row_below HO4.out.2.1 HA.out;have hk5:Kept (fun b => ev.ownBlock=some b) (w4.alloc (.cells #[.int .i64 (E:Int)] 3)) w5:=(Kept.refl _ _).grown hgrow (fun k hk => .inr hk)
        exact
        { bel:=hba.trans ((hk5.below (B:=w.heap.size) hba.size (fun b hb => (World.ownsRow.lt hea _ hb).1)))
          b:=by
           rw [HR1.out,List.length_append,HE.out];exact ownsRow_kept hoa hk5 (fun g hg hs => rows_two hoa hea g hg hs)
          e:=by
           rw [endsI_succ];have:endL L k=E:=by unfold endL;rw [HR1.out,List.length_append,HE.out]
           rw [this];exact hown
          may:=fun x hx => by
           rw [List.take_succ_eq_append_getElem HKL.out] at hx;rcases List.mem_append.1 hx with hx | hx
           ·exact hJ.out.may x hx
           ·rw [List.mem_singleton.1 hx,← getI_eq HKL.out,← HYM.out];exact HMG.out })
       clear hown hgrow
       go_wp2
       go_roundw
       case rel => exact ⟨k+1,_,_,by omega,rfl,rfl,by go_num,HJ5⟩
       case measure => simp [RowKit.intOf];omega
    ·obtain rfl:k=n:=by omega
     have hks:¬ ((k:Int) < (k:Int)):=by omega
     have HTK:Hid (L.take k=L):=Lib.hid (List.take_of_length_le (by rw [HLL.out];exact Nat.le_refl _))
     have hbb:=hJ.out.b;rw [HTK.out] at hbb;obtain ⟨p4,c4,rfl,hle4,hmx4,hbt4,_,hat4⟩:=OwnB.slice hbb;obtain ⟨Ln,hLn⟩:∃ Ln,(rowI L).length=Ln:=⟨_,rfl⟩;rw [hLn] at hle4 hbt4 ⊢;have HLnE:=Lib.hid hLn;have hLb:Ln≤80003200:=by rw [← hLn,← HTK.out];exact HRL.out k
     have hq0:∃ K:Nat,K≤Ln∧Int.tmod cut ((Ln:Int)+1)=(K:Int):=by
      have h1:=Int.emod_nonneg cut (b:=(Ln:Int)+1) (by omega)
      have h2:=Int.emod_lt_of_pos cut (b:=(Ln:Int)+1) (by omega)
      refine ⟨(cut % ((Ln:Int)+1)).toNat,by omega,?_⟩
      rw [Int.tmod_eq_emod_of_nonneg u0];omega
     obtain ⟨K,hK,hq⟩:=hq0;have HALLM:Hid (∀ x ∈ L,mayI x=true):=Lib.hid (by have:=hJ.out.may;rwa [HTK.out] at this)
     have HBT4:Hid (BAt wr p4 Ln (rowI L)∧c4≤maxLen):=Lib.hid ⟨hbt4,hmx4⟩;have HEV:=Lib.hid hJ.out.e;have HBW:=Lib.hid hJ.out.bel;clear hbb hbt4 hmx4 hat4 hLn hJ hks;obtain ⟨wS,rfl⟩:∃ x,x=wr:=⟨_,rfl⟩
     go_wp2_with fail
     go_loopw [9,10,11,12,13] (fun av i _ _ _ wr => ∃ (j A:Nat),j≤k∧i=.int .i64 (j:Int)∧av=.int .i64 (A:Int)∧A≤K∧Hid ((rowI (L.take j)).length=A)∧Hid (Below wS.heap.size wS wr)) (fun _ i _ _ _ _ => k - (RowKit.intOf i).toNat)
     case atStart => exact ⟨0,0,Nat.zero_le _,rfl,rfl,Nat.zero_le _,Lib.hid rfl,Lib.hid (Below.refl _ _)⟩
     case round =>
      obtain ⟨j,A,hj,rfl,rfl,hAK,hA,hB⟩:=hrel
      by_cases hjk:j < k
      ·have hjl:j < L.length:=by rw [HLL.out];exact hjk
       have HBR:=Lib.hid (HBW.out.trans (hB.out.mono HBW.out.size));obtain ⟨b,o,rfl,hbw,hBd,hcc⟩:=(HM.out.below HBR.out).cells3 hjk;obtain ⟨y,hy⟩:∃ y,xs.getD j zeroJ=y:=⟨_,rfl⟩;have hym:y.m=L.getD j zeroI:=by rw [← hy];exact HGE.out j
       rw [hy] at hBd hcc;obtain ⟨BL,hBL⟩:∃ BL,(bytesI y.m).length=BL:=⟨_,rfl⟩;have hE:=endL_eq hjl;rw [hA.out,← hym,hBL] at hE
       have hEL:A+BL≤Ln:=by
        rw [← hE,← HLnE.out];exact rowI_le L (j+1)
       have hB16:16≤BL:=by rw [← hBL,bytesI_length];omega
       have hrg:=row_get HALLM.out hjl (K:=K) (by rw [hA.out];exact hAK)
       rw [hA.out,← hym,hE,hBL] at hrg;have HR1:Hid ((rowI (L.take (j+1))).length=A+BL):=Lib.hid hE;obtain ⟨gb,ob,hp4,_,_⟩:=HBT4.out.1.cell (k:=0) (by omega)
       subst hp4;obtain ⟨ge,ce,hev,hce,hge,hgc⟩:=ends_open HEV.out (by omega:0 < k)
       subst hev
       have hec:wr.cell? ⟨ge,j,none⟩=some (.int .i64 ((A+BL:Nat):Int)):=by
        rw [hB.out.cell (p:=⟨ge,j,none⟩) hge,hgc j hjk,endsI_get hjk,hE]
       obtain ⟨hbo,hbl⟩:=bat_off (k:=A) (m:=K - A) (HBT4.out.1.below hB.out) HLnE.out hle4 (by omega) (by omega)
       have hgt:=HC.out.get wr (some ⟨gb,ob+A,none⟩) (K - A) (c4 - A) _ hbo hbl (by omega) (by have:=HBT4.out.2;omega) (by omega)
       unfold GetIPost itmC at hgt;rw [hrg] at hgt;have HCC:Hid (∀ w',Below wr.heap.size wr w' → Cells3 w' b (o+j * 3) y∧DatAt w' y∧w'.cell? ⟨ge,j,none⟩=some (.int .i64 ((A+BL:Nat):Int))):=Lib.hid (fun w' h => ⟨hcc.below hbw h,hBd.below h,(h.cell (p:=⟨ge,j,none⟩) (World.block_lt_of_cell? _ _ hec)).trans hec⟩)
       obtain ⟨E,hEE⟩:∃ E,A+BL=E:=⟨_,rfl⟩;rw [hEE] at HCC hEL HR1 hgt;have hjz:(j:Int) < (k:Int):=by omega
       have hAz:(A:Int)≤(K:Int):=by omega
       have hKc:(K:Int)≤(c4:Int):=by omega
       have hAc:¬ (c4=A):=by omega
       clear hy hbw hBd hcc hjl hym hE hBL hrg hge hgc hec hbo hbl
       by_cases hend:E≤K
       ·rw [if_pos hend] at hgt
        dsimp only at hgt
        have HGT:=Lib.hid hgt;have hez:(E:Int)≤(K:Int):=by omega
        clear hgt
        go_wp2_with fail
        refine HGT.out.mono ?_
        rintro e w2 ⟨q2,d2,rfl,hd2,hb2⟩;obtain ⟨W3,hW3⟩:∃ W3,w2.alloc (.cells #[.string (str y.m.key),.int .i64 y.m.seq,.slice q2 y.m.data.length d2] 24)=W3:=⟨_,rfl⟩;have h23:Below w2.heap.size w2 W3:=by rw [← hW3];exact (Below.refl _ _).alloc (Nat.le_refl _) _
        have hX3:Blk W3 w2.heap.size 24 #[.string (str y.m.key),.int .i64 y.m.seq,.slice q2 y.m.data.length d2]:=by rw [← hW3];exact Blk.new w2 _ _
        have h13:Below wr.heap.size wr W3:=hb2.trans (h23.mono hb2.size);obtain ⟨⟨c0,c1,c2⟩,hyd,hec⟩:=HCC.out W3 h13;have x0:=hX3.cell 0;have x1:=hX3.cell 1;have x2:=hX3.cell 2;simp only [List.getElem?_toArray,List.getElem?_cons_zero,List.getElem?_cons_succ] at x0 x1 x2;have sc0:=since_cell c0;have sc1:=since_cell c1;have sc2:=since_cell c2;have sx0:=since_cell x0;have sx1:=since_cell x1;have sx2:=since_cell x2;have se:=since_cell hec
        have HSM:Hid (∀ p:Since W3,Calls Try.prog 14 #[.agg #[.string (str y.m.key),.int .i64 y.m.seq,.slice q2 y.m.data.length d2],.agg #[.string (str y.m.key),.int .i64 y.m.seq,.slice y.p y.m.data.length y.c]] p.w' fun e w' => e=.returned (.bool true)∧Below p.w'.heap.size p.w' w'):=Lib.hid (fun p => by
         have:=rsame_any ⟨y.m,q2,d2⟩ y p.w' ((hd2.below h23).below p.bel) (hyd.below p.bel)
         dsimp only at this
         rw [decide_eq_true rfl] at this
         exact this)
        have HB3:=Lib.hid (hB.out.trans (h13.mono hB.out.size));clear hd2 hb2 h23 hX3 h13 c0 c1 c2 x0 x1 x2 hyd hec HGT
        go_upto_region 18 with fail
        clear hW3;refine wp_region_since (by kernel_rfl) (by kernel_rfl) ?_
        repeat (quiet_step (first | (go_at_call 14;exact Calls.since_of (HSM.out _))))
        refine wpQuiet_nil ?_
        intro wq hw';have HWQ:=Lib.hid (HB3.out.trans ((since_bel hw').mono HB3.out.size));clear hw' sc0 sc1 sc2 sx0 sx1 sx2 se
        go_wp2
        go_roundw
        case rel => exact ⟨j+1,E,by omega,by go_num,by go_num,hend,HR1,HWQ⟩
        case measure => simp [RowKit.intOf];omega
       ·rw [if_neg hend] at hgt
        dsimp only [zeroI] at hgt
        have HGT:Hid (Calls Try.prog 12 #[.slice (some ⟨gb,ob+A,none⟩) (K - A) (c4 - A)] wr fun e w' => ∃ q d,e=.returned (.tuple #[.agg #[.string ⟨#[]⟩,.int .i64 0,.slice q 0 d],.int .i64 0,.bool false])∧DatAt w' ⟨zeroI,q,d⟩∧Below wr.heap.size wr w'):=Lib.hid hgt
        have hez:¬ ((E:Int)≤(K:Int)):=by omega
        clear hgt
        go_wp2_with fail
        refine HGT.out.mono ?_
        rintro e w2 ⟨q2,d2,rfl,hd2,hb2⟩;obtain ⟨W3,hW3⟩:∃ W3,w2.alloc (.cells #[.string ⟨#[]⟩,.int .i64 0,.slice q2 0 d2] 24)=W3:=⟨_,rfl⟩;have h23:Below w2.heap.size w2 W3:=by rw [← hW3];exact (Below.refl _ _).alloc (Nat.le_refl _) _
        have h13:Below wr.heap.size wr W3:=hb2.trans (h23.mono hb2.size);obtain ⟨_,_,hec⟩:=HCC.out W3 h13;have HB3:=Lib.hid (HBR.out.trans (h13.mono HBR.out.size));clear hd2 hb2 h23 h13 HGT
        go_upto_region 18 with fail
        go_quiet (fail)
        obtain ⟨wq,hwq⟩:∃ wq,W3.drewN nq=wq:=⟨_,rfl⟩;have HBQ:Hid (Below w.heap.size w wq):=Lib.hid (by rw [← hwq];exact below_drewN HB3.out _)
        rw [hwq];clear hwq hW3
        go_wp2_with fail
        refine (ans13_any HC.out wq).mono ?_
        rintro e w6 ⟨rfl,hb6⟩;have HB6:=Lib.hid (HBQ.out.trans (hb6.mono HBQ.out.size));clear hb6
        go_wp2
        go_ret
        exact ⟨rfl,HB6.out⟩
      ·obtain rfl:j=k:=by omega
       have hks:¬ ((j:Int) < (j:Int)):=by omega
       have hAL:A=Ln:=by rw [← hA.out,HTK.out,HLnE.out]
       subst hAL;have g1:((A:Int) == (A:Int))=true:=by simp
       have HBR:=Lib.hid (HBW.out.trans (hB.out.mono HBW.out.size))
       go_wp2_with fail
       refine (ans13_any HC.out wr).mono ?_
       rintro e w6 ⟨rfl,hb6⟩;have HB6:=Lib.hid (HBR.out.trans (hb6.mono HBR.out.size));clear hb6
       go_wp2
       go_ret
       exact ⟨rfl,HB6.out⟩
end Go.Proofs.Ytpdpgjilalojjaa.Walk
end
section
namespace Go.Proofs.Ytpdpgjilalojjaa.Walk
open Go.ChangeShapes Go.WideShapes Go.ChangeAt Go.RowKit Base Byt Bk Itm Go.Lib
set_option linter.unusedVariables false
theorem recRow (p:Option Addr) (n c:Nat) (xs:List IP) (cut:Int) (w:World) (ma:ItemsAt w p n xs) (lc:n≤c) (cm:c≤maxLen) (by0:c * 48≤140737488351232) (rm:∀ x ∈ xs,WfI x.m∧RoomI x) (wf:(Lit.int .u16 cut).wf=true) :
 Calls Try.prog 7 #[.slice p n c,.int .u16 cut] w fun e w' => e=.returned (.bool true)∧Below w.heap.size w w':=recRowC itemC4 p n c xs cut w ma lc cm by0 rm wf
end Go.Proofs.Ytpdpgjilalojjaa.Walk
end
