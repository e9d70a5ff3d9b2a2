/- Texts of this seat, merged: what the proof reaches. -/
import Derived.Test.YtnpkcneojilmkaaDoorRows
import Derived.Shelf.Bytes.SlTrim
import Derived.Test.YtnpkcneojilmkaaDoorWriteShortX13
import Derived.Test.YtnpkcneojilmkaaDoorWriteShortX16
import Derived.Lib.SlBytesConst
import Derived.Test.YtnpkcneojilmkaaDoorWriteShortX19
import Derived.Carry
import Derived.Test.YtnpkcneojilmkaaDoorWriteShortX8
import Derived.Test.YtnpkcneojilmkaaDoorWriteShortX17
import Derived.Laws.ResultCell
import Derived.Deep.RegionHeldLaw
import Derived.Test.YtnpkcneojilmkaaDoorWriteShortX23
import Derived.Test.YtnpkcneojilmkaaDoorWriteShortX5
import Derived.Test.YtnpkcneojilmkaaDoorWriteShortX25
import Derived.Test.YtnpkcneojilmkaaDoorWriteShortX20
import Derived.Test.YtnpkcneojilmkaaDoorWriteShortX27
import Derived.Test.YtnpkcneojilmkaaDoorWriteShortX14
import Derived.Test.YtnpkcneojilmkaaDoorWriteShortX26
import Derived.Test.YtnpkcneojilmkaaDoorWriteShortX28
import Derived.Test.YtnpkcneojilmkaaDoorWriteShortX10
import Derived.Shelf.Abstract
import Derived.StillTailTactics
import Derived.Deep.DeepCutAuto
import Derived.Test.YtnpkcneojilmkaaDoorWriteShortX24
section
namespace Go.Proofs.YtnpkcneojilmkaaDoor.Field
open Go.ChangeShapes Go.WideShapes Go.ChangeAt Go.RowKit Base Num Fp Byt
set_option linter.unusedVariables false
open Go.Lib (bytesOf)
theorem put_bat {w w':World} {r:Option (List Int)} {n wide:Int} (hr:r=putF n wide) {l:List Int} {v:Value} (h:r=some l) (hown:w'.ownsRow w.heap.size 5 1 v l.length (l.map (Value.int .u8))) :
 ∃ p c,v=.slice p l.length c∧l.length≤c∧c≤maxLen∧BAt w' p l.length (bytesOf l)∧(bytesOf l).length=l.length:=
 bat_of_own hown (putF_bd (hr ▸ h))
end Go.Proofs.YtnpkcneojilmkaaDoor.Field
end
section
namespace Go.Proofs.YtnpkcneojilmkaaDoor.Head
open Go.ChangeShapes Go.WideShapes Go.ChangeAt Go.RowKit Base Byt Txt Hp Go.Proofs.YtnpkcneojilmkaaDoor.Mp Fp Go.Proofs.YtnpkcneojilmkaaDoor.Field Go.Lib
set_option linter.unusedVariables false
set_option maxRecDepth 100000
def numF (vals:Nat → Int):Nat → Option Value:=fun i => if 1≤i∧i≤5 then some (.int .i64 (vals i)) else none
theorem numF_val (vals:Nat → Int):∀ j v,numF vals j=some v → v=.int .i64 (vals j):=fun j v h => by
 unfold numF at h
 split at h
 ·exact (Option.some.inj h).symm
 ·cases h
theorem numF_lt {vals:Nat → Int} {j:Nat} {v:Value} (h:numF vals j=some v):1≤j∧j≤5:=by
 unfold numF at h
 split at h
 ·assumption
 ·cases h
theorem numF_at (vals:Nat → Int) {j:Nat} (h1:1≤j) (h2:j≤5):numF vals j=some (.int .i64 (vals j)):=by
 unfold numF;rw [if_pos ⟨h1,h2⟩]
set_option maxHeartbeats 2000000 in
theorem numbersOf_any (n l:ByteArray) (k m u g t z:Int) (gnu:Bool) (vals:Nat → Int) (h1:vals 1=m) (h2:vals 2=u) (h3:vals 3=g) (h4:vals 4=z) (h5:vals 5=t) (w:World) :
 Calls Tryd.prog 79 #[.agg #[.string n,.string l,.int .u8 k,.int .i64 m,.int .i64 u,.int .i64 g,.int .i64 t,.int .i64 z,.bool gnu]] w fun e w' => ∃ N,e=.returned (.map (some N))∧MapF w' N (numF vals)∧w.heap.size≤N∧Kept noneB w w':=by
 obtain ⟨O,hO⟩:∃ O,O=Obj.cells #[.string n,.string l,.int .u8 k,.int .i64 m,.int .i64 u,.int .i64 g,.int .i64 t,.int .i64 z,.bool gnu] 47:=⟨_,rfl⟩;have hm0:=mapF_made (w.alloc O);rw [World.size_alloc,hO] at hm0;have HM0:=Lib.hid hm0;have hb0:((w.alloc O).alloc (.map #[] 0)).heap[w.heap.size]? = some O:=((Kept.refl noneB (w.alloc O)).alloc (.map #[] 0)).some_ (heap_alloc_new w O) id;have hk0:Kept noneB w ((w.alloc O).alloc (.map #[] 0)):=((Kept.refl noneB w).alloc O).alloc _;rw [hO] at hb0 hk0;have HB0:=Lib.hid hb0;have HK0:=Lib.hid hk0;clear hm0 hb0 hk0 hO
 have off:¬ oneB (w.heap.size+1) w.heap.size:=fun e => by
  have:w.heap.size=w.heap.size+1:=e;omega
 have OFF:=Lib.hid off
 have lo:∀ i,oneB (w.heap.size+1) i → w.heap.size≤i ∨ noneB i:=fun i hi => Or.inl (by
  have:i=w.heap.size+1:=hi
  omega)
 have LO:=Lib.hid lo;clear off lo;have mm:=@run_makeMap Tryd.prog
 go_enter Tryd.func79,Tryd.ntmps79
 go_wp2_with (refine wpList_insertF rfl _ _ _ (Or.inr rfl) Tryd.underlying106 Tryd.underlying99 (w.heap.size+1) HM0.out rfl 1 rfl rfl (.int .i64 m) rfl ?_)
 intro w1 HM1 hk1 hs1;have HB1:=Lib.hid (hk1.out.some_ HB0.out OFF.out);have HK1:=Lib.hid (HK0.out.then hk1.out LO.out)
 have c4:=cellsAt HB1.out 4;clear hk1 hs1
 go_wp2_with (refine wpList_insertF rfl _ _ _ (Or.inr rfl) Tryd.underlying106 Tryd.underlying99 (w.heap.size+1) HM1.out rfl 2 rfl rfl (.int .i64 u) rfl ?_)
 intro w2 HM2 hk2 hs2;have HB2:=Lib.hid (hk2.out.some_ HB1.out OFF.out);have HK2:=Lib.hid (HK1.out.then hk2.out LO.out)
 have c5:=cellsAt HB2.out 5;clear hk2 hs2 c4
 go_wp2_with (refine wpList_insertF rfl _ _ _ (Or.inr rfl) Tryd.underlying106 Tryd.underlying99 (w.heap.size+1) HM2.out rfl 3 rfl rfl (.int .i64 g) rfl ?_)
 intro w3 HM3 hk3 hs3;have HB3:=Lib.hid (hk3.out.some_ HB2.out OFF.out);have HK3:=Lib.hid (HK2.out.then hk3.out LO.out)
 have c6:=cellsAt HB3.out 6;clear hk3 hs3 c5
 go_wp2_with (refine wpList_insertF rfl _ _ _ (Or.inr rfl) Tryd.underlying106 Tryd.underlying99 (w.heap.size+1) HM3.out rfl 5 rfl rfl (.int .i64 t) rfl ?_)
 intro w4 HM4 hk4 hs4;have HB4:=Lib.hid (hk4.out.some_ HB3.out OFF.out);have HK4:=Lib.hid (HK3.out.then hk4.out LO.out)
 have c7:=cellsAt HB4.out 7;clear hk4 hs4 c6
 go_wp2_with (refine wpList_insertF rfl _ _ _ (Or.inr rfl) Tryd.underlying106 Tryd.underlying99 (w.heap.size+1) HM4.out rfl 4 rfl rfl (.int .i64 z) rfl ?_)
 intro w5 HM5 hk5 hs5;have HK5:=Lib.hid (HK4.out.then hk5.out LO.out)
 clear hk5 hs5 c7
 go_wp2
 go_ret
 refine ⟨_,rfl,?_,by omega,HK5.out⟩
 have e:(numF vals)=fun y => if y=4 then some (Value.int .i64 z) else if y=5 then some (Value.int .i64 t) else if y=3 then some (Value.int .i64 g) else if y=2 then some (Value.int .i64 u) else if y=1 then some (Value.int .i64 m) else none:=by
  funext y
  unfold numF
  match y with
  | 0 => rfl
  | 1 => rw [h1];rfl
  | 2 => rw [h2];rfl
  | 3 => rw [h3];rfl
  | 4 => rw [h4];rfl
  | 5 => rw [h5];rfl
  | y+6 => rw [if_neg (by omega),if_neg (by omega),if_neg (by omega),if_neg (by omega),if_neg (by omega),if_neg (by omega)]
 rw [e];exact HM5.out
def rowsB (r:Nat → Nat):Nat → Prop:=fun k => ∃ i,i < 11∧k=r i
def numO (h:HeadV) (own:Nat → List UInt8):Nat → List UInt8:=fun i => if 1≤i∧i≤5 then numB h i else own i
def PutNumsPost (w:World) (lo B:Nat) (r:Nat → Nat) (h:HeadV) (own:Nat → List UInt8) (e:Ending) (w':World):Prop:=
 Kept (rowsB r) w w'∧((numsOk h=true∧e=.returned (.bool true)∧PartsAt w' lo B r (numO h own)) ∨ (numsOk h=false∧e=.returned (.bool false)))
set_option maxHeartbeats 2000000 in
theorem putNumbers_any (h:HeadV) (hwf:∀ i,(Lit.int .i64 (numH h i)).wf=true) (lo B:Nat) (r:Nat → Nat) (own:Nat → List UInt8) (w:World) (hP0:PartsAt w lo B r own) (hz:∀ i,1≤i → i≤5 → own i=List.replicate (wideF i) 0) :
 Calls Tryd.prog 66 #[.map (some B),.agg #[.string (str h.name),.string (str h.link),.int .u8 (h.kind.toNat:Int),.int .i64 h.mode,.int .i64 h.uid,.int .i64 h.gid,.int .i64 h.time,.int .i64 h.size,.bool h.gnu]] w (PutNumsPost w lo B r h own):=by
 have fl:=field_own;have HP0:=Lib.hid hP0;have HZ:=Lib.hid hz;have HWF:=Lib.hid hwf;have HK0:=Lib.hid ((Kept.refl noneB w).alloc (.cells #[.string (str h.name),.string (str h.link),.int .u8 (h.kind.toNat:Int),.int .i64 h.mode,.int .i64 h.uid,.int .i64 h.gid,.int .i64 h.time,.int .i64 h.size,.bool h.gnu] 47));clear hP0 hz hwf
 go_enter Tryd.func66,Tryd.ntmps66
 go_wp2_with fail
 refine (numbersOf_any _ _ _ _ _ _ _ _ _ (numH h) rfl rfl rfl rfl rfl _).mono ?_
 rintro e w1 ⟨N,rfl,hN,hNl,hk1⟩;have HN:=Lib.hid hN;have HP1:=Lib.hid ((HP0.out.kept0 HK0.out).kept0 hk1);have HK1:=Lib.hid (HK0.out.trans hk1);clear hN hNl hk1;obtain ⟨R,hR⟩:∃ R,R=w1.heap.size:=⟨_,rfl⟩
 go_wp2_with (first | (at_range;refine wpList_rangeF rfl _ rfl Tryd.underlying106 N HN.out (fun _ => true) (fun _ _ _ => rfl) rfl R hR ?_;intro w2 HI hk2 hs2) | go_in)
 have HK2:=Lib.hid ((HK1.out.trans hk2.out).of_none (rowsB r));have HP2:=Lib.hid (HP1.out.kept0 hk2.out);have HRL:Hid (w.heap.size≤R):=Lib.hid (by rw [hR];exact HK1.out.size)
 clear hk2 hs2 hR
 try go_frame
 go_loopw [12] (fun _ wr => ∃ todo,Hid (IterF wr N R (numF (numH h)) todo)∧Hid (PartsAt wr lo B r (mixO todo own (numO h own)))∧Hid (Kept (rowsB r) w wr)∧Hid (∀ i,1≤i → i≤5 → todo i=false → (putF (numH h i) (wideF i)).isSome=true)) (fun _ wr => wr.rangeLeft N R)
 case atStart => exact ⟨fun _ => true,HI,by
  have e:mixO (fun _ => true) own (numO h own)=own:=by funext i;exact if_pos rfl
  rw [e];exact HP2,HK2,Lib.hid (fun i _ _ h => by cases h)⟩
 case round =>
  obtain ⟨todo,hI,hP,hK,hD⟩:=hrel
  go_wp2_with (at_next;refine wpList_nextF rfl _ rfl N R todo (fun j => .int .i64 (numH h j)) (numF_val _) rfl hI.out ?_ ?_)
  ·intro hd
   have hall:∀ i,1≤i → i≤5 → todo i=false:=fun i h1 h2 => hd i _ (numF_at _ h1 h2)
   have HE:Hid (numsOk h=true∧mixO todo own (numO h own)=numO h own):=Lib.hid ⟨numsOk_iff.2 fun i h1 h2 => hD.out i h1 h2 (hall i h1 h2),by
    funext i
    unfold mixO
    split
    ·rename_i ht
     unfold numO;rw [if_neg];rintro ⟨h1,h2⟩;rw [hall i h1 h2] at ht
     cases ht
    ·rfl⟩
   clear hd hall
   go_wp2
   go_ret
   refine ⟨hK.out,Or.inl ⟨HE.out.1,rfl,?_⟩⟩;have h1:=hP.out;rw [HE.out.2] at h1;exact h1
  ·intro j w3 v hj htj HI3 HLT HK3 hs3 hen
   have hj:=numF_lt hj;obtain ⟨hj1,hj5⟩:=hj;have hj11:j < 11:=by omega
   have hP3:=hP.out.kept HK3.out (fun e => by
    have h1:=hP.out.map;have h2:=hI.out;obtain ⟨es,clock,hb,_⟩:=h1;obtain ⟨_,_,_,_,_,_,_,_,_,hr,_⟩:=h2;have e:B=R:=e;rw [← e,hb] at hr
    cases hr) (fun i hi e => (iter_off hI.out (hP.out.row i hi)).2 e)
   have hK3:=hK.out.then HK3.out (fun i hi => Or.inl (by
    have h1:i=R:=hi;have:=HRL.out
    omega))
   have lk:(Instr.lookup 95 (.map (some B)) (.int .i64 (j:Int)) false).run Tryd.prog w3=.ok (.agg #[.int .i64 (atF j),.slice (some ⟨r j,0,none⟩) (wideF j) (wideF j)]) w3:=
    hP3.map.look (P:=Tryd.prog) Tryd.underlying95 Tryd.underlying99 (x:=j) (v:=partV r j) (by unfold partF;rw [if_pos hj11])
   have hw:=wide_pos hj11;have HJ:=Lib.hid hj11;have HP3:=Lib.hid hP3;have HKK:=Lib.hid hK3;have HW:=Lib.hid hw;have HTJ:=Lib.hid htj;have HJ1:Hid (1≤j∧j≤5):=Lib.hid ⟨hj1,hj5⟩;have HROW3:=Lib.hid (iter_off (HI3.out) (HP3.out.row j hj11));clear hP3 hK3 hw htj
   go_wp2_with fail
   refine (put_any (numH h j) (wideF j) w3 (HWF.out j) (by
    have:=HW.out
    exact WalkArith.wf_i64 (by omega))).mono ?_
   rintro e w4 ⟨hb4,(⟨l,v4,hl,rfl,hown⟩ | ⟨hl,rfl⟩)⟩
   ·have hlen:=putF_length hl
    obtain ⟨p4,c4,rfl,hc4,hm4,hbat,_⟩:=put_bat rfl hl hown;have hk4:Kept noneB w3 w4:=Kept.of_below hb4 _;have HP4:=Lib.hid (HP3.out.kept0 hk4);have HK4:=Lib.hid (HKK.out.trans (hk4.of_none _));have hI4:=HI3.out.kept hk4 id id;have HI4:=Lib.hid hI4.1;have HL4:Hid (w4.rangeLeft N R < wr.rangeLeft N R):=Lib.hid (by rw [hI4.2];exact HLT.out)
    have hbl:(bytesOf l).length=wideF j:=by rw [bytesOf_length];omega
    have cs:(convert 24 9 (.slice p4 l.length c4)).run Tryd.prog w4=.ok (.string (str (bytesOf l))) w4:=conv_at hbat (by rw [bytesOf_length]) _ _ _ Tryd.underlying24 Tryd.underlying5 Tryd.underlying9 c4
    have HB:Hid (numB h j=bytesOf l):=Lib.hid (numB_some hl);have HBL:=Lib.hid hbl;have HSO:Hid ((putF (numH h j) (wideF j)).isSome=true):=Lib.hid (by rw [hl];rfl)
    clear hl hown hlen hc4 hm4 hbat hb4 hk4 hI4 lk hbl
    go_wp2_with fail
    refine (put_field lo B r _ j (str (bytesOf l)) w4 HJ.out HP4.out).mono ?_
    rintro e w5 ⟨rfl,hP5,hk5,hs5⟩;have hold:(mixO todo own (numO h own) j).length=wideF j:=HP4.out.fit j;rw [str_data,List.take_of_length_le (by rw [HBL.out];exact Nat.le_refl _),putInto_all (by rw [HBL.out,hold])] at hP5
    have e5:=mix_step (todo:=todo) (a:=own) (b:=numO h own) j;rw [show numO h own j=bytesOf l by unfold numO;rw [if_pos HJ1.out,HB.out]] at e5
    rw [e5] at hP5;have HP5:=Lib.hid hP5;have HK5:=Lib.hid hk5;clear hP5 hk5 hs5 hold e5 cs
    go_wp2
    go_roundw
    case rel =>
     have hI5:=HI4.out.kept HK5.out (fun e => HROW3.out.1 (Eq.symm e)) (fun e => HROW3.out.2 (Eq.symm e))
     refine ⟨fun z => todo z && z != j,Lib.hid hI5.1,HP5,Lib.hid (HK4.out.trans (HK5.out.mono (fun k hk => ⟨j,HJ.out,hk⟩))),Lib.hid (fun i h1 h2 ht => ?_)⟩
     by_cases hij:i=j
     ·rw [hij];exact HSO.out
     ·have h3:(i != j)=true:=by simpa using hij
      have ht:(todo i && i != j)=false:=ht;rw [h3,Bool.and_true] at ht;exact hD.out i h1 h2 ht
    case measure =>
     have hI5:=HI4.out.kept HK5.out (fun e => HROW3.out.1 (Eq.symm e)) (fun e => HROW3.out.2 (Eq.symm e))
     have h1:=HL4.out;have h2:=hI5.2;omega
   ·have HE:Hid (numsOk h=false):=Lib.hid (by
     cases hc:numsOk h with
     | false => rfl
     | true =>
       have:=numsOk_iff.1 hc j HJ1.out.1 HJ1.out.2;rw [hl] at this
       cases this)
    have HK4:=Lib.hid (HKK.out.trans (Kept.of_below hb4 _));clear hl hb4 lk
    go_wp2
    go_ret
    exact ⟨HK4.out,Or.inr ⟨HE.out,rfl⟩⟩
end Go.Proofs.YtnpkcneojilmkaaDoor.Head
end
section
namespace Go.Proofs.YtnpkcneojilmkaaDoor.Head
open Go.ChangeShapes Go.WideShapes Go.ChangeAt Go.RowKit Base Byt Txt Hp Go.Proofs.YtnpkcneojilmkaaDoor.Mp Fp Go.Proofs.YtnpkcneojilmkaaDoor.Field Go.Lib
set_option linter.unusedVariables false
set_option maxRecDepth 100000
theorem kept9 {w0 w:World} {g:Nat} (h:Kept (oneB g) w0 w) (v0 v1 v2 v3 v4 v5 v6 v7 v8:Value) :
 Kept (oneB g) w0 (((((((((w.setCell ⟨g,0,none⟩ v0).setCell ⟨g,1,none⟩ v1).setCell ⟨g,2,none⟩ v2).setCell ⟨g,3,none⟩ v3).setCell ⟨g,4,none⟩ v4).setCell ⟨g,5,none⟩ v5).setCell ⟨g,6,none⟩ v6).setCell ⟨g,7,none⟩ v7).setCell ⟨g,8,none⟩ v8):=by
 have st:∀ {w:World} (i:Nat) (v:Value),Kept (oneB g) w0 w → Kept (oneB g) w0 (w.setCell ⟨g,i,none⟩ v):=fun i v h => h.setCell (a:=⟨g,i,none⟩) (Or.inr (show oneB g g from rfl)) v
 exact st 8 v8 (st 7 v7 (st 6 v6 (st 5 v5 (st 4 v4 (st 3 v3 (st 2 v2 (st 1 v1 (st 0 v0 h))))))))
end Go.Proofs.YtnpkcneojilmkaaDoor.Head
end
section
namespace Go.Proofs.YtnpkcneojilmkaaDoor.Head
open Go.ChangeShapes Go.WideShapes Go.ChangeAt Go.RowKit Base Byt Txt Hp Go.Proofs.YtnpkcneojilmkaaDoor.Mp Fp Go.Proofs.YtnpkcneojilmkaaDoor.Field Go.Lib
set_option linter.unusedVariables false
set_option maxRecDepth 100000
theorem index_zero (l:List UInt8):decide (0≤Lib.indexByte l 0)=l.contains 0:=by
 cases hc:l.contains 0 with
 | true =>
   rw [decide_eq_true_eq];have hm:(0:UInt8) ∈ l:=by simpa using hc
   obtain ⟨k,hk⟩:=List.getElem?_of_mem hm;have hge:=Lib.indexByte_ge l 0;rcases Int.lt_or_le (Lib.indexByte l 0) 0 with h | h
   ·exact absurd hk (Lib.indexByte_none (show Lib.indexByte l 0 = -1 by omega) k)
   ·exact h
 | false =>
   rw [decide_eq_false_iff_not];intro h;obtain ⟨k,hk⟩:∃ k:Nat,Lib.indexByte l 0=k:=⟨(Lib.indexByte l 0).toNat,by omega⟩
   have h1:=List.mem_of_getElem? (Lib.indexByte_some hk).1;have h2:l.contains 0=true:=by simpa using h1
   rw [hc] at h2
   cases h2
theorem contains_any (l:List UInt8) (w:World):Calls Tryd.prog 64 #[.string (str l),.string ⟨#[0]⟩] w fun e w' => e=.returned (.bool (l.contains 0))∧w=w':=
 (Any.strings_Contains_one Tryd.laysConts (str l) 0 w).mono fun e w' ⟨h1,h2⟩ => ⟨by rw [h1,str_data,index_zero],h2.symm⟩
theorem put_zero {own:Nat → List UInt8} {i:Nat} {t:List UInt8} (hz:own i=List.replicate (wideF i) 0) (hl:t.length≤wideF i):putInto (own i) (t.take (wideF i))=padTo (wideF i) t:=by
 rw [hz,List.take_of_length_le hl,putInto_zero]
theorem putR_cut {h:HeadV} (hc:cutR h.name=none):putR h=none:=by unfold putR;rw [hc]
theorem putR_bad {h:HeadV} (hb:badH h=true):putR h=none:=by
 unfold putR
 cases cutR h.name with
 | none => rfl
 | some ps => simp only;rw [if_pos (by rw [hb];rfl)]
theorem putR_num {h:HeadV} (hn:numsOk h=false):putR h=none:=by
 unfold putR
 cases cutR h.name with
 | none => rfl
 | some ps => simp only;rw [if_pos (by rw [hn];simp)]
theorem putR_ok {h:HeadV} {p s:List UInt8} (hc:cutR h.name=some (p,s)) (hb:badH h=false) (hn:numsOk h=true):putR h=some (blockA (own2 h p s)):=by
 unfold putR;rw [hc];simp only;rw [if_neg (by rw [hb,hn];simp)]
def PutHPost (w:World) (r:Option (List UInt8)) (e:Ending) (w':World):Prop:=
 Kept noneB w w'∧((∃ bs g,r=some bs∧e=.returned (.tuple #[.slice (some ⟨g,0,none⟩) 512 512,.bool true])∧RowB w' g bs∧w.heap.size≤g) ∨ (r=none∧e=.returned (.tuple #[.slice none 0 0,.bool false])))
theorem one_bat (w:World) (k:UInt8):BAt (w.alloc (.cells #[.int .u8 (k.toNat:Int)] 5)) (some ⟨w.heap.size,0,none⟩) 1 [k]:=fun _ =>
 ⟨w.heap.size,0,rfl,fun i hi => by
  obtain rfl:i=0:=by omega
  rw [World.cell?_alloc_at _ _ _ _ rfl]
  rfl⟩
theorem own1_field (h:HeadV) (p s:List UInt8):own1 h p s 0=padTo 100 s∧own1 h p s 6=List.replicate 8 0∧own1 h p s 7=[h.kind]∧own1 h p s 8=padTo 100 h.link∧own1 h p s 9=ustarB∧own1 h p s 10=padTo 155 p ∧ ∀ i,1≤i → i≤5 → own1 h p s i=numB h i:=by
 refine ⟨rfl,rfl,rfl,rfl,rfl,rfl,fun i h1 h2 => ?_⟩
 unfold own1;rw [if_neg (by omega),if_neg (by omega),if_neg (by omega),if_neg (by omega),if_neg (by omega),if_neg (by omega),if_pos h2]
set_option maxHeartbeats 4000000 in
theorem putH_any (h:HeadV) (hwf:∀ i,(Lit.int .i64 (numH h i)).wf=true) (hnl:h.name.length≤140737488351232) (hll:h.link.length≤140737488351232) (w:World) :
 Calls Tryd.prog 52 #[.agg #[.string (str h.name),.string (str h.link),.int .u8 (h.kind.toNat:Int),.int .i64 h.mode,.int .i64 h.uid,.int .i64 h.gid,.int .i64 h.time,.int .i64 h.size,.bool h.gnu]] w (PutHPost w (putR h)):=by
 obtain ⟨w0,hw0⟩:∃ w0,w0=w.alloc (.cells #[.string (str h.name),.string (str h.link),.int .u8 (h.kind.toNat:Int),.int .i64 h.mode,.int .i64 h.uid,.int .i64 h.gid,.int .i64 h.time,.int .i64 h.size,.bool h.gnu] 47):=⟨_,rfl⟩;have HW:Hid (Kept noneB w w0):=Lib.hid (by rw [hw0];exact (Kept.refl _ _).alloc _)
 have HB0:Hid (w0.heap[w.heap.size]? = some (.cells (headC h) 47 (0,0))):=Lib.hid (by rw [hw0];exact heap_alloc_new _ _)
 have HWF:=Lib.hid hwf;have hls:(str h.link).size=h.link.length:=str_size _;clear hwf
 go_enter Tryd.func52,Tryd.ntmps52
 go_wp2_with fail
 rw [← hw0];clear hw0;refine (hcut_any (str h.name) w0 (by rw [str_size];exact hnl)).mono ?_
 rintro e w1 ⟨rfl,hk1⟩;rw [str_data];have HK1:=Lib.hid hk1;clear hk1
 cases hcut:cutR h.name with
 | none =>
   rw [cutV_none hcut];have hR:=putR_cut hcut;have HR:=Lib.hid hR;clear hR hcut;have c1:=cellsAt (HK1.out.some_ HB0.out id);unfold headC at c1
   go_wp2
   go_ret2
   exact ⟨HW.out.trans HK1.out,Or.inr ⟨HR.out,rfl⟩⟩
 | some ps =>
   obtain ⟨p,s⟩:=ps;rw [cutV_some hcut];have HCUT:=Lib.hid hcut;have HSP:=Lib.hid (cutR_spec hcut);clear hcut;have c1:=cellsAt (HK1.out.some_ HB0.out id);unfold headC at c1
   by_cases hgn:h.gnu=true
   ·have HR:Hid (putR h=none):=Lib.hid (putR_bad (by unfold badH;rw [hgn];rfl))
    rw [hgn] at c1;clear hgn
    go_wp2
    go_ret2
    exact ⟨HW.out.trans HK1.out,Or.inr ⟨HR.out,rfl⟩⟩
   ·have hgn':h.gnu=false:=by simpa using hgn
    have HGN:=Lib.hid hgn'
    by_cases hk0:h.kind=0
    ·have HR:Hid (putR h=none):=Lib.hid (putR_bad (by unfold badH;rw [hgn',hk0];rfl))
     rw [hgn',hk0] at c1;have c1:∀ i,w1.cell? ⟨w.heap.size,i,none⟩=(#[.string (str h.name),.string (str h.link),.int .u8 0,.int .i64 h.mode,.int .i64 h.uid,.int .i64 h.gid,.int .i64 h.time,.int .i64 h.size,.bool false]:Array Value)[i]?:=c1;clear hgn hgn' hk0
     go_wp2
     go_ret2
     exact ⟨HW.out.trans HK1.out,Or.inr ⟨HR.out,rfl⟩⟩
    ·have hkk:((h.kind.toNat:Int) == 0)=false:=by
      have h1:h.kind.toNat≠0:=fun e => hk0 (UInt8.toNat_inj.1 e)
      simp;omega
     have HKD:=Lib.hid hk0;have hkz:¬ ((h.kind.toNat:Int)=0):=by simpa using hkk
     by_cases hlk:h.link.length≤100
     ·rw [hgn'] at c1
      clear hgn hgn' hk0
      go_wp2_with fail
      refine (contains_any h.name w1).mono ?_
      rintro e w1' ⟨rfl,rfl⟩
      by_cases hz1:h.name.contains 0=true
      ·have HR:Hid (putR h=none):=Lib.hid (putR_bad (by unfold badH;rw [hz1];simp))
       rw [hz1];clear hz1
       go_wp2
       go_ret2
       exact ⟨HW.out.trans HK1.out,Or.inr ⟨HR.out,rfl⟩⟩
      ·have hz1':h.name.contains 0=false:=by simpa using hz1
       have HZ1:=Lib.hid hz1';rw [hz1'];clear hz1 hz1'
       go_wp2_with fail
       refine (contains_any h.link w1).mono ?_
       rintro e w1' ⟨rfl,rfl⟩
       by_cases hz2:h.link.contains 0=true
       ·have HR:Hid (putR h=none):=Lib.hid (putR_bad (by unfold badH;rw [hz2];simp))
        rw [hz2];clear hz2
        go_wp2
        go_ret2
        exact ⟨HW.out.trans HK1.out,Or.inr ⟨HR.out,rfl⟩⟩
       ·have hz2':h.link.contains 0=false:=by simpa using hz2
        have HBAD:Hid (badH h=false):=Lib.hid (by
         unfold badH;rw [HGN.out,HZ1.out,hz2'];have h1:(h.kind == 0)=false:=by simpa using HKD.out
         have h2:¬ 100 < h.link.length:=by omega
         rw [h1]
         simp [h2])
        rw [hz2'];clear hz2 hz2'
        go_wp2_with fail
        refine (blank_any w1).mono ?_
        rintro e w2 ⟨B,r,rfl,hP2,hk2⟩;have HK2:=Lib.hid (HK1.out.trans hk2);have HLO:Hid (w0.heap.size≤w1.heap.size):=Lib.hid HK1.out.size;obtain ⟨lo,hlo⟩:∃ lo,lo=w1.heap.size:=⟨_,rfl⟩;rw [← hlo] at hP2;have HLW:Hid (w0.heap.size≤lo):=Lib.hid (by rw [hlo];exact HLO.out)
        have HP2:=Lib.hid hP2;have HROW:Hid (∀ i,i < 11 → w0.heap.size≤r i):=Lib.hid (fun i hi => Nat.le_trans HLW.out (hP2.lo.2 i hi))
        clear hP2 hk2 hlo c1;have c2:=cellsAt (HK2.out.some_ HB0.out id);unfold headC at c2;rw [HGN.out] at c2
        go_wp2_with fail
        refine Calls.mono (show Calls _ _ _ _ (PutNumsPost w2 lo B r h zeroO) by
         have hh:=putNumbers_any h HWF.out lo B r zeroO w2 HP2.out (fun i _ _ => rfl)
         rw [HGN.out] at hh
         exact hh) ?_
        intro e w3 h3;obtain ⟨hk3,(⟨hok,rfl,hP3⟩ | ⟨hno,rfl⟩)⟩:=h3
        ·have HOK:=Lib.hid hok
         have HP3:=Lib.hid hP3
         have HK3:=Lib.hid (HK2.out.then hk3 (fun k hk => Or.inl (by
          obtain ⟨i,hi,rfl⟩:=hk
          exact HROW.out i hi)))
         have hKT:∀ (i:Nat) (wa wb:World),i < 11 → Kept noneB w0 wa → Kept (oneB (r i)) wa wb → Kept noneB w0 wb:=fun i wa wb hi ha hb => ha.then hb (fun k hk => Or.inl (by
          have h1:k=r i:=hk;rw [h1]
          exact HROW.out i hi))
         have HKT:=Lib.hid hKT;have hsl:s.length≤100:=HSP.out.1;have hpl:p.length≤155:=HSP.out.2.1;clear hok hP3 hk3 c2 hKT
         go_wp2_with fail
         refine (put_field lo B r _ 0 (str s) w3 (by omega) HP3.out).mono ?_
         rintro e w4 ⟨rfl,hP4,hk4,-⟩;rw [str_data,put_zero (i:=0) (t:=s) rfl hsl] at hP4;have HP4:=Lib.hid hP4;have HK4:=Lib.hid (HKT.out 0 _ _ (by omega) HK3.out hk4)
         clear hP4 hk4
         go_wp2_with fail
         refine (put_field lo B r _ 10 (str p) w4 (by omega) HP4.out).mono ?_
         rintro e w5 ⟨rfl,hP5,hk5,-⟩;rw [str_data,put_zero (i:=10) (t:=p) rfl hpl] at hP5;have HP5:=Lib.hid hP5;have HK5:=Lib.hid (HKT.out 10 _ _ (by omega) HK4.out hk5)
         clear hP5 hk5;have c5:=cellsAt (HK5.out.some_ HB0.out id);unfold headC at c5
         have cvk:(convert 24 9 (.slice (some ⟨w5.heap.size,0,none⟩) 1 1)).run Tryd.prog (w5.alloc (.cells #[.int .u8 (h.kind.toNat:Int)] 5))=.ok (.string (str [h.kind])) (w5.alloc (.cells #[.int .u8 (h.kind.toNat:Int)] 5)):=
          conv_at (one_bat w5 h.kind) rfl _ _ _ Tryd.underlying24 Tryd.underlying5 Tryd.underlying9 1
         have HA5:=Lib.hid ((Kept.refl noneB w5).alloc (.cells #[.int .u8 (h.kind.toNat:Int)] 5))
         go_wp2_with fail
         refine (put_field lo B r _ 7 (str [h.kind]) _ (by omega) (HP5.out.kept0 HA5.out)).mono ?_
         rintro e w6 ⟨rfl,hP6,hk6,-⟩;rw [str_data,put_zero (i:=7) (t:=[h.kind]) rfl (Nat.le_refl 1)] at hP6;have HP6:=Lib.hid hP6;have HK6:=Lib.hid (HKT.out 7 _ _ (by omega) (HK5.out.trans HA5.out) hk6)
         clear hP6 hk6 c5 cvk;have c6:=cellsAt (HK6.out.some_ HB0.out id);unfold headC at c6
         go_wp2_with fail
         refine (put_field lo B r _ 8 (str h.link) w6 (by omega) HP6.out).mono ?_
         rintro e w7 ⟨rfl,hP7,hk7,-⟩;rw [str_data,put_zero (i:=8) (t:=h.link) rfl hlk] at hP7;have HP7:=Lib.hid hP7;have HK7:=Lib.hid (HKT.out 8 _ _ (by omega) HK6.out hk7)
         clear hP7 hk7 c6
         go_wp2_with fail
         refine (put_field lo B r _ 9 _ w7 (by omega) HP7.out).mono ?_
         rintro e w8 ⟨rfl,hP8,hk8,-⟩;rw [show (ByteArray.mk #[117,115,116,97,114,0,48,48]).data.toList=ustarB from rfl,put_zero (i:=9) (t:=ustarB) rfl (Nat.le_refl 8)] at hP8
         have HK8:=Lib.hid (HKT.out 9 _ _ (by omega) HK7.out hk8)
         obtain ⟨own,hown⟩:∃ own,own=upd (upd (upd (upd (upd (numO h zeroO) 0 (padTo (wideF 0) s)) 10 (padTo (wideF 10) p)) 7 (padTo (wideF 7) [h.kind])) 8 (padTo (wideF 8) h.link)) 9 (padTo (wideF 9) ustarB):=⟨_,rfl⟩;rw [← hown] at hP8
         have ho1:own=own1 h p s:=by
          have hf1:=own1_field h p s;refine fits_ext hP8.fit (own1_fits hsl hpl hlk HOK.out) fun i hi => ?_
          rw [hown];rcases cases11 hi with rfl | rfl | rfl | rfl | rfl | rfl | rfl | rfl | rfl | rfl | rfl
          ·rw [hf1.1];rfl
          ·rw [hf1.2.2.2.2.2.2 1 (by omega) (by omega)];rfl
          ·rw [hf1.2.2.2.2.2.2 2 (by omega) (by omega)];rfl
          ·rw [hf1.2.2.2.2.2.2 3 (by omega) (by omega)];rfl
          ·rw [hf1.2.2.2.2.2.2 4 (by omega) (by omega)];rfl
          ·rw [hf1.2.2.2.2.2.2 5 (by omega) (by omega)];rfl
          ·rw [hf1.2.1];rfl
          ·rw [hf1.2.2.1];rfl
          ·rw [hf1.2.2.2.1];rfl
          ·rw [hf1.2.2.2.2.1];rfl
          ·rw [hf1.2.2.2.2.2.1];rfl
         rw [ho1] at hP8;have HP8:=Lib.hid hP8;clear hP8 hk8 hown ho1 own
         go_wp2_with fail
         refine (block_any lo B r (own1 h p s) w8 HP8.out).mono ?_
         rintro e w9 ⟨g1,rfl,hR9,hg9,hk9⟩;have HP9:=Lib.hid (HP8.out.kept0 hk9);have HK9:=Lib.hid (HK8.out.trans hk9);have hb9:=hR9.bat;rw [blockA_length] at hb9;have HB9:=Lib.hid hb9;clear hR9 hg9 hk9 hb9
         have hS:((plainTo (blockA (own1 h p s)) 512:Nat):Int) - (plainTo (own1 h p s 6) 8:Nat)+256=(sumTo (blockA (own1 h p s)) 512:Nat):=by
          have h1:=sum_parts (bs:=blockA (own1 h p s));rw [field_blockA HP9.out.fit (by omega)] at h1
          omega
         have hSL:=sumTo_le (blockA (own1 h p s)) 512;obtain ⟨S,hSd⟩:∃ S,S=sumTo (blockA (own1 h p s)) 512:=⟨_,rfl⟩;rw [← hSd] at hS hSL;have HS:=Lib.hid hS;have HSD:=Lib.hid hSd;clear hS hSd
         go_wp2_with fail
         refine (sum_any lo B r (own1 h p s) _ 512 512 (blockA (own1 h p s)) w9 (by omega) HB9.out HP9.out).mono ?_
         rintro e w9' ⟨rfl,rfl⟩;rw [HS.out]
         go_wp2_with fail
         refine (put_any (S:Int) 7 w9 (WalkArith.wf_i64 (by omega)) (by decide)).mono ?_
         rintro e w10 ⟨hb10,(⟨l,v,hl,rfl,hown⟩ | ⟨hl,rfl⟩)⟩
         ·obtain ⟨p10,c10,rfl,hc10,hm10,hbat,_⟩:=put_bat rfl hl hown
          rw [putF_sum (by omega)] at hl
          have hl:=Option.some.inj hl;have hl7:l.length=7:=by rw [← hl];simp [putD_length]
          have hk10:Kept noneB w9 w10:=Kept.of_below hb10 _;have HP10:=Lib.hid (HP9.out.kept0 hk10);have HK10:=Lib.hid (HK9.out.trans hk10);have cs:(convert 24 9 (.slice p10 l.length c10)).run Tryd.prog w10=.ok (.string (str (bytesOf l))) w10:=conv_at hbat (by rw [bytesOf_length]) _ _ _ Tryd.underlying24 Tryd.underlying5 Tryd.underlying9 c10
          have hsz:(str (bytesOf l)).size=7:=by rw [str_size,bytesOf_length,hl7]
          have HL:=Lib.hid hl;have HL7:=Lib.hid hl7;clear hl hl7 hown hc10 hm10 hbat hb10 hk10
          go_wp2_with fail
          refine (put_field lo B r _ 6 _ w10 (by omega) HP10.out).mono ?_
          rintro e w11 ⟨rfl,hP11,hk11,-⟩
          have e6:(str (bytesOf l)++⟨#[32]⟩).data.toList=sumB S:=by
           rw [show (⟨#[32]⟩:ByteArray)=str [32] from rfl,str_app',str_data,sumB,HL.out]
          rw [e6,List.take_of_length_le (by rw [sumB_length];exact Nat.le_refl _),putInto_all (by rw [sumB_length,(own1_field h p s).2.1];rfl),HSD.out] at hP11
          have HP11:=Lib.hid (show PartsAt w11 lo B r (own2 h p s) from hP11)
          have HK11:=Lib.hid (HKT.out 6 _ _ (by omega) HK10.out hk11)
          clear hP11 hk11 e6 cs
          go_wp2_with fail
          refine (block_any lo B r (own2 h p s) w11 HP11.out).mono ?_
          rintro e w12 ⟨g2,rfl,hR12,hg12,hk12⟩;have HR12:=Lib.hid hR12;have HG12:Hid (w.heap.size≤g2):=Lib.hid (Nat.le_trans (Nat.le_trans HW.out.size HK11.out.size) hg12);have HK12:=Lib.hid (HK11.out.trans hk12);have HPR:=Lib.hid (putR_ok HCUT.out HBAD.out HOK.out);clear hR12 hg12 hk12
          go_wp2
          go_ret2
          exact ⟨HW.out.trans HK12.out,Or.inl ⟨_,g2,HPR.out,rfl,HR12.out,HG12.out⟩⟩
         ·exfalso
          rw [putF_sum (by omega)] at hl
          cases hl
        ·have HR:Hid (putR h=none):=Lib.hid (putR_num hno)
         have HK3:=Lib.hid (HK2.out.then hk3 (fun k hk => Or.inl (by
          obtain ⟨i,hi,rfl⟩:=hk
          exact HROW.out i hi)))
         clear hno hk3 c2
         go_wp2
         go_ret2
         exact ⟨HW.out.trans HK3.out,Or.inr ⟨HR.out,rfl⟩⟩
     ·have hlk2:100 < h.link.length:=by omega
      have HR:Hid (putR h=none):=Lib.hid (putR_bad (by unfold badH;simp [hlk2]))
      rw [hgn'] at c1;clear hgn hgn' hk0
      go_wp2
      go_ret2
      exact ⟨HW.out.trans HK1.out,Or.inr ⟨HR.out,rfl⟩⟩
end Go.Proofs.YtnpkcneojilmkaaDoor.Head
end
section
namespace Go.Proofs.YtnpkcneojilmkaaDoor.Wr
open Go.ChangeShapes Go.WideShapes Go.ChangeAt Go.RowKit Base Byt Txt Bk Hp Head Rec Mem Block Go.Lib
set_option linter.unusedVariables false
set_option maxRecDepth 100000
theorem own8_ne {w:World} {B n b:Nat} {v:Value} {bs:List UInt8} {t:TypeId} {cs:Array Value} (ho:OwnB w B v n bs) (hb:Blk w b t cs) (ht:t≠5):v.ownBlock≠some b:=fun e => by
 rcases ho.2 with ⟨rfl,_⟩ | ⟨g,cap,cur,rfl,_,hg,_⟩
 ·cases e
 ·have hgb:g=b:=by simpa [Value.ownBlock] using e
  subst hgb;unfold Blk at hb;rw [hb] at hg;simp only [Option.some.injEq,Obj.cells.injEq] at hg;exact ht hg.2.1
theorem padB_is (l:List UInt8):padB l=l++zerosTo l.length:=rfl
theorem put_after {w w2 w':World} {g B:Nat} {v:Value} {X xs:List UInt8} {e:Ending} (hk:Kept noneB w w2) (h:PutPost w2 g B v X xs e w'):PutPost w g B v X xs e w':=by
 obtain ⟨v',he,h1,h2,h3⟩:=h;exact ⟨v',he,h1,(hk.of_none _).trans h2,fun k hk' => (h3 k hk').imp id (Nat.le_trans hk.size)⟩
structure Laid (w:World) (g B:Nat) (v:Value) (wx:World) (v':Value) (Y:List UInt8):Prop where
 snk:Snk wx g B v' Y
 kept:Kept (putB g v) w wx
 new:NewOr w v v'
section
variable {w wx wy:World} {g B:Nat} {v v':Value} {X Y xs:List UInt8}
theorem Laid.start (h:Snk w g B v X):Laid w g B v w v X:=⟨h,Kept.refl _ _,NewOr.refl _ _⟩
theorem Laid.after (h:Laid w g B v wx v' Y) (hk:Kept noneB wx wy):Laid w g B v wy v' Y:=⟨h.snk.kept hk id (fun _ _ => id),h.kept.trans (hk.of_none _),h.new⟩
theorem Laid.step {e:Ending} (h:Laid w g B v wx v' Y) (hp:PutPost wx g B v' Y xs e wy):∃ v'',e=.returned (.tuple #[])∧Laid w g B v wy v'' (Y++xs)∧Kept (putB g v') wx wy∧NewOr wx v' v'':=by
 obtain ⟨u,he,h1,h2,h3⟩:=hp;refine ⟨u,he,⟨h1,h.kept.then h2 (fun i hi => ?_),h.new.trans h3 h.kept.size⟩,h2,h3⟩
 rcases hi with hi | hi
 ·exact .inr (.inl hi)
 ·rcases h.new i hi with h4 | h4
  ·exact .inr (.inr h4)
  ·exact .inl h4
theorem Laid.blk (h:Laid w g B v wx v' Y) (hk:Kept (putB g v') wx wy) {b:Nat} {t:TypeId} {cs:Array Value} (hb:Blk wx b t cs) (h8:t≠5) (hS:b≠g):Blk wy b t cs:=
 hb.keptS hk (fun e => by
  rcases e with e | e
  ·exact hS e
  ·exact own8_ne h.snk.own hb h8 e)
theorem Laid.post {e:Ending} (h:Laid w g B v wx v' (X++Y)) (he:e=.returned (.tuple #[])):PutPost w g B v X Y e wx:=⟨v',he,h.snk,h.kept,h.new⟩
end
theorem sput1_any (w:World) (g B:Nat) (v:Value) (X:List UInt8) (h:Snk w g B v X) (hB:B≤w.heap.size) (q1:Option Addr) (m1 c1:Nat) (x1:List UInt8)
 (h1:BAt w q1 m1 x1) (l1:x1.length=m1) (o1:0 < m1 → ∀ x,q1=some x → v.ownBlock≠some x.block) (hsum:X.length+m1≤140737488351232) :
 Calls Tryd.prog 40 #[.pointer (some ⟨g,0,none⟩),.slice (some ⟨w.heap.size,0,none⟩) 1 1] (w.alloc (.cells #[.slice q1 m1 c1] 24)) (PutPost w g B v X x1):=by
 have hk:Kept noneB w (w.alloc (.cells #[.slice q1 m1 c1] 24)):=(Kept.refl _ w).alloc _;have hcat:=catB_one x1;rw [← hcat];refine (sput_any _ g B v X (h.kept hk id (fun _ _ => id)) (Nat.le_trans hB hk.size) _ 1 1 (fun _ => q1) (fun _ => m1) (fun _ => c1) (fun _ => x1) ?_ (by decide) ?_ ?_ ?_).mono ?_
 ·intro _
  refine ⟨w.heap.size,0,rfl,by simp,fun i hi => ?_⟩
  match i,hi with
  | 0,_ => exact ⟨by simp,h1.kept hk (fun _ _ _ => id),l1⟩
 ·intro _ x hx
  cases hx
  have h3:=h.lt;refine ⟨by show w.heap.size≠g;omega,fun e => ?_⟩
  have:w.heap.size < w.heap.size:=(h.own.lt _ e).2;omega
 ·intro i hi
  match i,hi with
  | 0,_ => exact o1
 ·rw [hcat,List.length_append,l1];omega
 ·rintro e w' h
  exact put_after hk h
set_option maxHeartbeats 1000000 in
theorem layHead_any (w:World) (g B:Nat) (v:Value) (X:List UInt8) (hs:Snk w g B v X) (hB:B≤w.heap.size) (h:HeadV) (hwf:∀ i,(Lit.int .i64 (numH h i)).wf=true) (hnl:h.name.length≤140737488351232) (hll:h.link.length≤140737488351232)
 (bs:List UInt8) (hp:putR h=some bs) (hl:bs.length=512) (hsum:X.length+512≤140737488351232) :
 Calls Tryd.prog 32 #[.pointer (some ⟨g,0,none⟩),.agg (headC h)] w (PutPost w g B v X bs):=by
 unfold headC;obtain ⟨W,hW⟩:∃ W,w.alloc (.cells #[.string (str h.name),.string (str h.link),.int .u8 (h.kind.toNat:Int),.int .i64 h.mode,.int .i64 h.uid,.int .i64 h.gid,.int .i64 h.time,.int .i64 h.size,.bool h.gnu] 47)=W:=⟨_,rfl⟩;have hK:Kept noneB w W:=by rw [← hW];exact (Kept.refl _ w).alloc _
 have hP:=putH_any h hwf hnl hll W;rw [hp] at hP;have HW:=Lib.hid hW;have HK:=Lib.hid hK;have HP:=Lib.hid hP;have HS:=Lib.hid hs;have HL:=Lib.hid hl;clear hW hK hP hs hl hp
 go_enter Tryd.func32,Tryd.ntmps32
 go_wp2_with fail
 rw [show w.alloc (.cells #[.string (str h.name),.string (str h.link),.int .u8 (h.kind.toNat:Int),.int .i64 h.mode,.int .i64 h.uid,.int .i64 h.gid,.int .i64 h.time,.int .i64 h.size,.bool h.gnu] 47)=W from HW.out]
 refine HP.out.mono ?_
 rintro e w2 ⟨hk2,(⟨bs',gx,hr,rfl,hrow,hge⟩ | ⟨hr,_⟩)⟩
 case inr => cases hr
 obtain rfl:bs=bs':=Option.some.inj hr;have hb:=hrow.bat;rw [HL.out] at hb;have HKK:=Lib.hid (HK.out.trans hk2)
 have HX:=Lib.hid (sput1_any w2 g B v X (HS.out.kept HKK.out id (fun _ _ => id)) (Nat.le_trans hB HKK.out.size) (some ⟨gx,0,none⟩) 512 512 bs hb HL.out (fun _ x hx e => by
  cases hx
  have h1:=(HS.out.own.lt _ e).2;have h2:gx < w.heap.size:=h1;have h3:=HK.out.size
  omega) (by omega))
 clear hr hk2 hrow hge hb
 go_wp2_with fail
 refine HX.out.mono ?_
 rintro e w3 h3;obtain ⟨v3,rfl,h4⟩:=put_after HKK.out h3;have H4:=Lib.hid h4;clear h3 h4
 go_wp2
 go_end0
 exact ⟨v3,rfl,H4.out⟩
end Go.Proofs.YtnpkcneojilmkaaDoor.Wr
end
section
namespace Go.Proofs.YtnpkcneojilmkaaDoor.Wr
open Go.ChangeShapes Go.WideShapes Go.ChangeAt Go.RowKit Base Byt Txt Bk Hp Head Rec Attr Mem Block Go.Lib
set_option linter.unusedVariables false
set_option maxRecDepth 100000
theorem recsM_small {m:MemV} (h:GoodM m):(recsM m).length≤5 ∧ ∀ r ∈ recsM m,r.1.length+r.2.length≤1000000000000:=by
 refine ⟨?_,fun r hr => by have:=(mayD_spec (recsM_may h r hr)).2.2.2.2;omega⟩
 have d:∀ (c:Prop) [Decidable c] (k v:List UInt8),(if c then [(k,v)] else []).length≤1:=fun c _ k v => by split<;>simp
 simp only [recsM,List.length_append];have d1:=d (longP m=true) (keyT 4) m.path;have d2:=d (longL m=true) (keyT 5) m.target;have d3:=d (2097151 < m.uid) (keyT 0) (decL m.uid.toNat);have d4:=d (2097151 < m.gid) (keyT 1) (decL m.gid.toNat);have d5:=d (8589934591 < m.time) (keyT 2) (decL m.time.toNat);omega
structure LI (w:World) (g B:Nat) (v:Value) (M:Array Value) (hb:Nat) (h:HeadV) (p:Option Addr) (bs:List UInt8) (wx:World) (v':Value) (Y:List UInt8):Prop where
 laid:Laid w g B v wx v' Y
 mem:Blk wx w.heap.size 26 M
 hd:Blk wx hb 47 (headC h)
 body:BAt wx p bs.length bs
 off:0 < bs.length → ∀ x,p=some x → v'.ownBlock≠some x.block
section
variable {w wx wy:World} {g B hb:Nat} {v v':Value} {M:Array Value} {h:HeadV} {p:Option Addr} {bs Y xs:List UInt8}
theorem LI.after (i:LI w g B v M hb h p bs wx v' Y) (hk:Kept noneB wx wy):LI w g B v M hb h p bs wy v' Y:=
 ⟨i.laid.after hk,i.mem.keptS hk id,i.hd.keptS hk id,i.body.kept hk (fun _ _ _ => id),i.off⟩
theorem LI.step {e:Ending} (i:LI w g B v M hb h p bs wx v' Y) (hg:g < w.heap.size) (hhb:w.heap.size≤hb) (hp:0 < bs.length → ∀ x,p=some x → x.block < w.heap.size∧v.ownBlock≠some x.block) (q:PutPost wx g B v' Y xs e wy) :
 ∃ v'',e=.returned (.tuple #[])∧LI w g B v M hb h p bs wy v'' (Y++xs)∧Kept (putB g v') wx wy∧NewOr wx v' v'':=by
 obtain ⟨v'',he,l,k,nw⟩:=i.laid.step q;refine ⟨v'',he,⟨l,i.laid.blk k i.mem (by decide) (by omega),i.laid.blk k i.hd (by decide) (by omega),i.body.kept k (fun h0 x hx e => ?_),fun h0 x hx e => ?_⟩,k,nw⟩
 ·rcases e with e | e
  ·exact bat_offSnk i.body i.laid.snk h0 x hx e
  ·exact i.off h0 x hx e
 ·rcases l.new _ e with e | e
  ·exact (hp h0 x hx).2 e
  ·have:=(hp h0 x hx).1
   omega
end
def LayCut (w:World) (g B:Nat) (v:Value) (X H:List UInt8) (M:Array Value) (hb:Nat) (m:MemV) (p:Option Addr) (wx:World):Prop:=
 ∃ v' Y,LI w g B v M hb (headM m) p m.body wx v' (X++Y)∧putM m=Y++(H++padB m.body)∧Y.length≤1100000
set_option maxHeartbeats 4000000 in
theorem lay_any (w:World) (g B:Nat) (v:Value) (X:List UInt8) (hs:Snk w g B v X) (hB:B≤w.heap.size) (m:MemV) (p:Option Addr) (c:Nat) (hg:GoodM m) (hb:BAt w p m.body.length m.body)
 (hoff:0 < m.body.length → ∀ x,p=some x → v.ownBlock≠some x.block) (hsum:X.length+4000000≤140737488351232) (hN:Need w) :
 Calls Tryd.prog 14 #[.pointer (some ⟨g,0,none⟩),.agg (memC m p c)] w (PutPost w g B v X (putM m)):=by
 obtain ⟨H,hpH,hlH,hcase⟩:=put_cases hg;obtain ⟨hrl,hrz⟩:=recsM_small hg;have hlm:=linesM_le hg;have hbm:=hg.body;have hglt:=hs.lt
 have hplt:0 < m.body.length → ∀ x,p=some x → x.block < w.heap.size∧v.ownBlock≠some x.block:=fun h0 x hx => ⟨by
  obtain ⟨b,o,he,hbw,_⟩:=hb.cell h0;rw [hx] at he
  cases he
  exact hbw,hoff h0 x hx⟩
 obtain ⟨bl,hbl⟩:∃ bl,m.body.length=bl:=⟨_,rfl⟩;obtain ⟨n,hn⟩:∃ n,(recsM m).length=n:=⟨_,rfl⟩;obtain ⟨W0,hW0⟩:∃ W0,w.alloc (.cells (memC m p c) 26)=W0:=⟨_,rfl⟩;have hK0:Kept noneB w W0:=by rw [← hW0];exact (Kept.refl _ w).alloc _
 have hM0:Blk W0 w.heap.size 26 (memC m p c):=by rw [← hW0];exact Blk.new w _ _
 have hSPL:=split_any m p c W0 hg (hN.below (hK0.below (Nat.le_refl _) (fun _ h => h.elim)))
 have hL0:Laid w g B v W0 v X:=(Laid.start hs).after hK0;have HPH:=Lib.hid (And.intro hpH hlH);have HCASE:=Lib.hid hcase;have HRL:=Lib.hid (And.intro hrl hrz);have HLM:=Lib.hid hlm;have HPLT:=Lib.hid hplt;have HGLT:=Lib.hid hglt;have HK0:=Lib.hid hK0;have HM0:=Lib.hid hM0;have HSPL:=Lib.hid hSPL;have HL0:=Lib.hid hL0;have HN:=Lib.hid hN;have HG:=Lib.hid hg;have HBAT:=Lib.hid hb;have HOFF:=Lib.hid hoff;have HW0:=Lib.hid hW0;have HBL:=Lib.hid hbl;have HNN:=Lib.hid hn;have HBB:=Lib.hid hB;have HBM:=Lib.hid hbm;unfold memC at HSPL HW0 ⊢;rw [hbl] at HSPL HW0 ⊢
 clear hpH hlH hcase hrl hrz hlm hplt hglt hK0 hM0 hSPL hL0 hN hg hb hoff hW0 hbl hn hB hbm hs
 go_enter Tryd.func14,Tryd.ntmps14
 go_wp2_with fail
 rw [HW0.out];refine HSPL.out.mono ?_
 rintro e w1 ⟨q,d,rfl,h1,h2,h3,h4⟩;rw [HNN.out] at h1 h3 ⊢;unfold headC;have HR:=Lib.hid (And.intro h1 (And.intro h2 h3));have HB1:=Lib.hid h4;clear h1 h2 h3 h4
 go_upto_if 15 with fail
 obtain ⟨w2,hw2⟩:∃ w2,w1.alloc (.cells #[.string (str (headM m).name),.string (str (headM m).link),.int .u8 ((headM m).kind.toNat:Int),.int .i64 (headM m).mode,.int .i64 (headM m).uid,.int .i64 (headM m).gid,.int .i64 (headM m).time,.int .i64 (headM m).size,.bool (headM m).gnu] 47)=w2:=⟨_,rfl⟩;have hk12:Kept noneB w1 w2:=by rw [← hw2];exact (Kept.refl _ w1).alloc _
 have hh2:Blk w2 w1.heap.size 47 (headC (headM m)):=by rw [← hw2];exact Blk.new w1 _ _
 have hk01:=Kept.of_below HB1.out noneB;have HSZ:Hid (w.heap.size≤w1.heap.size):=Lib.hid (Nat.le_trans HK0.out.size HB1.out.size);have HB2:Hid (Below w.heap.size w w2):=Lib.hid ((HK0.out.trans (hk01.trans hk12)).below (Nat.le_refl _) (fun _ h => h.elim))
 have HI2:Hid (LI w g B v (memC m p c) w1.heap.size (headM m) p m.body w2 v X):=Lib.hid ⟨(HL0.out.after hk01).after hk12,(HM0.out.keptS hk01 id).keptS hk12 id,hh2,HBAT.out.kept (HK0.out.trans (hk01.trans hk12)) (fun _ _ _ => id),HOFF.out⟩
 have HR2:Hid (RecsAt w2 q n (recsM m)):=Lib.hid (HR.out.2.2.below (hk12.below (Nat.le_refl _) (fun _ h => h.elim)))
 have HN2:=Lib.hid (HN.out.below HB2.out);rw [hw2];clear hw2 hk12 hh2 hk01
 go_cut [6] (fun _ wx => LayCut w g B v X H (memC m p c) w1.heap.size m p wx)
 case first =>
  rcases HCASE.out with ⟨hr,he⟩ | ⟨hr,Xh,x1,x2,he⟩
  ·have hz:¬ (0:Int) < (n:Int):=by have:=HNN.out;rw [hr] at this;simp at this;omega
   have HE:=Lib.hid he;clear hr he
   go_wp2
   go_meet
   exact ⟨v,[],by rw [List.append_nil];exact HI2.out,by rw [List.nil_append];exact HE.out,by simp⟩
  ·have hz:(0:Int) < (n:Int):=by
    have:=List.length_pos_iff.2 hr;rw [HNN.out] at this;omega
   have HE:=Lib.hid he;have HX1:=Lib.hid (And.intro x1 x2);clear hr he x1 x2
   go_wp2_with fail
   refine (recPut_own q n d (recsM m) w2 (by have:=HRL.out.1;rw [HNN.out] at this;omega) HR2.out HRL.out.2 HN2.out).mono ?_
   rintro e w3 ⟨hy,_,hb3⟩;obtain ⟨p3,c3,rfl,h31,h32,h33,h34⟩:=hy (recsM_may HG.out);obtain ⟨L,hL⟩:∃ L,(linesD (recsM m)).length=L:=⟨_,rfl⟩;have HLL:=Lib.hid hL;rw [hL] at h31 h33 HX1 HLM ⊢;have HP3:=Lib.hid (And.intro h33 h34);have HI3:=Lib.hid (HI2.out.after (Kept.of_below hb3 noneB));have HS3:Hid (w2.heap.size≤w3.heap.size):=Lib.hid hb3.size;have HB3:=Lib.hid (HB2.out.trans (hb3.mono HB2.out.size))
   have hH:Calls Tryd.prog 32 #[.pointer (some ⟨g,0,none⟩),.agg #[.string ⟨#[64,112,97,120]⟩,.string ⟨#[]⟩,.int .u8 120,.int .i64 0,.int .i64 0,.int .i64 0,.int .i64 0,.int .i64 (L:Int),.bool false]] w3 (PutPost w3 g B v X Xh):=
    layHead_any w3 g B v X HI3.out.laid.snk (Nat.le_trans HBB.out HB3.out.size) (paxH L) (paxH_wf HLM.out) (by show (4:Nat)≤_;decide) (by show (0:Nat)≤_;decide) Xh HX1.out.1 HX1.out.2 (by omega)
   have HH:=Lib.hid hH;clear hy hb3 hL h31 h32 h33 h34 hH
   go_wp2_with fail
   refine HH.out.mono ?_
   rintro e w4 h4;obtain ⟨v4,rfl,i4,k4,n4⟩:=HI3.out.step HGLT.out HSZ.out HPLT.out h4
   have hb4:BAt w4 p3 L (linesD (recsM m)):=HP3.out.1.kept k4 (fun h0 x hx e => by
    rcases e with e | e
    ·exact bat_offSnk HP3.out.1 HI3.out.laid.snk h0 x hx e
    ·have a1:=(HL0.out.snk.own.lt _ e).2
     have a2:=HP3.out.2 x hx;have a3:=HK0.out.size;have a4:=HB2.out.size;have a5:=HB1.out.size;have a6:=(HI2.out.laid.snk.own.lt _ e).2
     omega)
   have ho4:0 < L → ∀ x,p3=some x → v4.ownBlock≠some x.block:=fun h0 x hx e => by
    have a2:=HP3.out.2 x hx;obtain ⟨b,o,he,hbw,_⟩:=HP3.out.1.cell h0;rw [hx] at he
    cases he
    rcases n4 _ e with e | e
    ·have a6:=(HI2.out.laid.snk.own.lt _ e).2
     change w2.heap.size≤b at a2;change b < w2.heap.size at a6;omega
    ·change w3.heap.size≤b at e
     omega
   have HB4:=Lib.hid hb4;have HO4:=Lib.hid ho4;have HI4:=Lib.hid i4;have HS4:Hid (w3.heap.size≤w4.heap.size):=Lib.hid k4.size;clear h4 i4 k4 n4 hb4 ho4
   go_wp2_with fail
   refine (sbody_any w4 g B v4 (X++Xh) HI4.out.laid.snk (by have:=HBB.out;have:=HB3.out.size;have:=HS4.out;omega) p3 L c3 (linesD (recsM m)) HB4.out HLL.out HO4.out (by rw [List.length_append,HX1.out.2];have:=padN_le L;have:=HLM.out;omega)).mono ?_
   rintro e w5 h5;obtain ⟨v5,rfl,i5,_,_⟩:=HI4.out.step HGLT.out HSZ.out HPLT.out h5
   have HI5:Hid (LI w g B v (memC m p c) w1.heap.size (headM m) p m.body w5 v5 (X++(Xh++padB (linesD (recsM m))))):=Lib.hid (by
    rw [padB_is,HLL.out,← List.append_assoc]
    exact i5)
   clear h5 i5
   go_wp2
   go_meet
   refine ⟨v5,_,HI5.out,by rw [HE.out],?_⟩
   rw [List.length_append,padB_length,HX1.out.2,HLL.out];have:=(blocks_ge L).2;have:=HLM.out;omega
 case rest =>
  obtain ⟨v6,Y,i6,he,hy⟩:=hcut;have b9:=i6.hd;have z0:=b9.cell 0;have z1:=b9.cell 1;have z2:=b9.cell 2;have z3:=b9.cell 3;have z4:=b9.cell 4;have z5:=b9.cell 5;have z6:=b9.cell 6;have z7:=b9.cell 7;have z8:=b9.cell 8;simp only [headC,List.getElem?_toArray,List.getElem?_cons_zero,List.getElem?_cons_succ] at z0 z1 z2 z3 z4 z5 z6 z7 z8;have HI6:=Lib.hid i6;have HE:=Lib.hid he;have HYL:=Lib.hid hy;have HBC:Hid (B≤wc.heap.size):=Lib.hid (Nat.le_trans HBB.out i6.laid.kept.size);have hH:=layHead_any wc g B v6 (X++Y) i6.laid.snk HBC.out (headM m) (headM_wf HG.out) (headM_tx HG.out).1 (headM_tx HG.out).2 H HPH.out.1 HPH.out.2 (by rw [List.length_append];omega)
  unfold headC at hH;have HH:=Lib.hid hH;clear b9 i6 he hy hH
  go_wp2_with fail
  refine HH.out.mono ?_
  rintro e w7 h7;obtain ⟨v7,rfl,i7,k7,_⟩:=HI6.out.step HGLT.out HSZ.out HPLT.out h7;have y7:=i7.mem.cell 7;simp only [memC,List.getElem?_toArray,List.getElem?_cons_zero,List.getElem?_cons_succ] at y7;rw [HBL.out] at y7;have hbt:=i7.body;have hof:=i7.off;rw [HBL.out] at hbt hof;have HBT:=Lib.hid hbt;have HOF:=Lib.hid hof;have HI7:=Lib.hid i7;have HS7:Hid (wc.heap.size≤w7.heap.size):=Lib.hid k7.size;clear h7 i7 k7 z0 z1 z2 z3 z4 z5 z6 z7 z8 hbt hof
  go_wp2_with fail
  refine (sbody_any w7 g B v7 (X++Y++H) HI7.out.laid.snk (Nat.le_trans HBC.out HS7.out) p bl c m.body HBT.out HBL.out HOF.out (by rw [List.length_append,List.length_append,HPH.out.2];have:=padN_le bl;have:=HBM.out;have:=HBL.out;have:=HYL.out;omega)).mono ?_
  rintro e w8 h8;obtain ⟨v8,rfl,i8,_,_⟩:=HI7.out.step HGLT.out HSZ.out HPLT.out h8
  have HF:Hid (Laid w g B v w8 v8 (X++putM m)):=Lib.hid (by
   have:=i8.laid;rw [HE.out,padB_is,HBL.out];rw [show X++(Y++(H++(m.body++zerosTo bl)))=X++Y++H++(m.body++zerosTo bl) by simp only [List.append_assoc]]
   exact this)
  clear h8 i8 y7
  go_wp2
  go_end0
  exact ⟨v8,rfl,HF.out.snk,HF.out.kept,HF.out.new⟩
end Go.Proofs.YtnpkcneojilmkaaDoor.Wr
end
section
namespace Go.Proofs.YtnpkcneojilmkaaDoor.Wr
open Go.ChangeShapes Go.WideShapes Go.ChangeAt Go.RowKit Base Byt Txt Bk Hp Head Rec Attr Mem Block Go.Lib
set_option linter.unusedVariables false
set_option maxRecDepth 100000
theorem snk_made (w:World) (B:Nat):Snk (w.alloc (.cells #[.slice none 0 0] 40)) w.heap.size B (.slice none 0 0) []:=
 ⟨Blk.new w _ _,World.ownsRow_nil _ _ _ _⟩
theorem putB_nil {g k:Nat} (h:putB g (.slice none 0 0) k):k=g:=by
 rcases h with h | h
 ·exact h
 ·cases h
def BytesPost (w:World) (bs:List UInt8) (e:Ending) (w':World):Prop:=∃ v,e=.returned (.tuple #[v,.int .i64 0])∧OwnB w' w.heap.size v bs.length bs∧Below w.heap.size w w'
def NonePost (w:World) (n:Int) (e:Ending) (w':World):Prop:=e=.returned (.tuple #[.slice none 0 0,.int .i64 n])∧Below w.heap.size w w'
theorem putM_le {m:MemV} (h:GoodM m):(putM m).length≤3000000:=by
 have hb:=(blocks_ge m.body.length).2;have hl:=(blocks_ge (linesD (recsM m)).length).2;have hq:=linesM_le h;have hq2:=h.body;obtain ⟨H,_,h2,_,(⟨_,e⟩ | ⟨X,_,x2,_,e⟩)⟩:=put_laid h
 ·rw [e,List.length_append,padB_length,h2];omega
 ·rw [e,List.length_append,List.length_append,List.length_append,padB_length,padB_length,h2,x2];omega
set_option maxHeartbeats 1000000 in
theorem wput_no (m:MemV) (p:Option Addr) (c:Nat) (w:World) (h1:m.path.length≤1000000000000) (h2:m.target.length≤1000000000000) (hg:goodD m=false) (hN:Need w) :
 Calls Tryd.prog 8 #[.agg (memC m p c)] w (NonePost w 1):=by
 obtain ⟨W0,hW0⟩:∃ W0,w.alloc (.cells (memC m p c) 26)=W0:=⟨_,rfl⟩;have hB0:Below w.heap.size w W0:=by rw [← hW0];exact (Below.refl _ _).alloc (Nat.le_refl _) _
 have hG:=memGood_any m p c W0 h1 h2 (hN.below hB0).tabs;rw [hg] at hG;have HB0:=Lib.hid hB0;have HW0:=Lib.hid hW0;have HG:=Lib.hid hG;unfold memC at HW0 HG ⊢;clear hB0 hW0 hG hg
 go_enter Tryd.func8,Tryd.ntmps8
 go_wp2_with fail
 rw [HW0.out];refine HG.out.mono ?_
 rintro e w1 ⟨rfl,hb1⟩;have FIN:=Lib.hid (HB0.out.trans (hb1.mono HB0.out.size));clear hb1
 go_wp2
 go_ret2
 exact ⟨rfl,FIN.out⟩
set_option maxHeartbeats 2000000 in
theorem wput_yes (m:MemV) (p:Option Addr) (c:Nat) (w:World) (hg:goodD m=true) (hb:BAt w p m.body.length m.body) (hN:Need w) :
 Calls Tryd.prog 8 #[.agg (memC m p c)] w (BytesPost w (putM m)):=by
 have hgm:=good_facts hg;have hpl:=hgm.pathL;have htl:=hgm.targL;obtain ⟨W0,hW0⟩:∃ W0,w.alloc (.cells (memC m p c) 26)=W0:=⟨_,rfl⟩;have hB0:Below w.heap.size w W0:=by rw [← hW0];exact (Below.refl _ _).alloc (Nat.le_refl _) _
 have hM0:Blk W0 w.heap.size 26 (memC m p c):=by rw [← hW0];exact Blk.new w _ _
 have hG:=memGood_any m p c W0 (by omega) (by omega) (hN.below hB0).tabs
 rw [hg] at hG;obtain ⟨bl,hbl⟩:∃ bl,m.body.length=bl:=⟨_,rfl⟩;have HB0:=Lib.hid hB0;have HW0:=Lib.hid hW0;have HG:=Lib.hid hG;have HM0:=Lib.hid hM0;have HGM:=Lib.hid hgm;have HN:=Lib.hid hN;have HBT:=Lib.hid hb;have HBL:=Lib.hid hbl;unfold memC at HW0 HG ⊢;rw [hbl] at HW0 HG ⊢;clear hB0 hW0 hG hg hM0 hgm hN hb hpl htl hbl
 go_enter Tryd.func8,Tryd.ntmps8
 go_wp2_with fail
 rw [HW0.out];refine HG.out.mono ?_
 rintro e w1 ⟨rfl,hb1⟩;have HB1:=Lib.hid (HB0.out.trans (hb1.mono HB0.out.size));have HM1:=Lib.hid (HM0.out.below hb1 HM0.out.lt);clear hb1;obtain ⟨w2,hw2⟩:∃ w2,w1.alloc (.cells #[.slice none 0 0] 40)=w2:=⟨_,rfl⟩;have hs2:Snk w2 w1.heap.size w.heap.size (.slice none 0 0) []:=by rw [← hw2];exact snk_made w1 _
 have hb12:Below w1.heap.size w1 w2:=by rw [← hw2];exact (Below.refl _ _).alloc (Nat.le_refl _) _
 have HS2:=Lib.hid hs2;have HB2:=Lib.hid (HB1.out.trans (hb12.mono HB1.out.size));have hm2:=HM1.out.below hb12 HM1.out.lt;have HW2:=Lib.hid hw2;have hL:=lay_any w2 w1.heap.size w.heap.size (.slice none 0 0) [] HS2.out HB2.out.size m p c HGM.out (HBT.out.below HB2.out) (fun _ _ _ e => by cases e) (by simp) (HN.out.below HB2.out)
 unfold memC at hL hm2;rw [HBL.out] at hL hm2;have y0:=hm2.cell 0;have y1:=hm2.cell 1;have y2:=hm2.cell 2;have y3:=hm2.cell 3;have y4:=hm2.cell 4;have y5:=hm2.cell 5;have y6:=hm2.cell 6;have y7:=hm2.cell 7;simp only [List.getElem?_toArray,List.getElem?_cons_zero,List.getElem?_cons_succ] at y0 y1 y2 y3 y4 y5 y6 y7;have HLY:=Lib.hid hL;clear hs2 hb12 hw2 hL hm2
 go_upto_region 4 with fail
 rw [HW2.out]
 go_wp2_with fail
 refine HLY.out.mono ?_
 rintro e w3 ⟨v3,rfl,hs3,hk3,_⟩;rw [List.nil_append] at hs3;have HB3:Hid (Below w.heap.size w w3):=Lib.hid (HB2.out.trans (hk3.below HB2.out.size (fun k hk => by rw [putB_nil hk];exact HB1.out.size)))
 have HO:=Lib.hid (out_any w3 w1.heap.size w.heap.size v3 (putM m) hs3 (by have:=putM_le HGM.out;omega))
 clear hs3 hk3 y0 y1 y2 y3 y4 y5 y6 y7
 go_wp2_with fail
 refine HO.out.mono ?_
 rintro e w4 ⟨v4,rfl,ho4,hk4⟩;have FIN:Hid (OwnB w4 w.heap.size v4 (putM m).length (putM m)∧Below w.heap.size w w4):=Lib.hid ⟨ho4.mono HB3.out.size,HB3.out.trans (hk4.below HB3.out.size (fun _ h => h.elim))⟩
 clear ho4 hk4
 go_wp2
 go_ret2
 exact ⟨v4,rfl,FIN.out⟩
end Go.Proofs.YtnpkcneojilmkaaDoor.Wr
end
section
namespace Go.Proofs.YtnpkcneojilmkaaDoor.Mem
open Go.ChangeShapes Go.WideShapes Go.ChangeAt Go.RowKit Base Byt Txt Bk Hp Head Num Path Block Rec Attr Go.Proofs.YtnpkcneojilmkaaDoor.Mp Go.Lib
set_option linter.unusedVariables false
set_option maxRecDepth 100000
structure PM (w:World) (M:Array Value) (wx:World) (h:HeadV):Prop where
 bel:Below w.heap.size w wx
 mem:Blk wx w.heap.size 26 M
 hd:Blk wx (w.heap.size+1) 47 (headC h)
theorem PM.below {w:World} {M:Array Value} {wx wy:World} {h:HeadV} (hm:PM w M wx h) (hb:Below wx.heap.size wx wy):PM w M wy h:=
 ⟨hm.bel.trans (hb.mono hm.bel.size),hm.mem.below hb hm.mem.lt,hm.hd.below hb hm.hd.lt⟩
theorem PM.kept {w:World} {M:Array Value} {wx wy:World} {h:HeadV} (hm:PM w M wx h) (hk:Kept noneB wx wy):PM w M wy h:=hm.below (hk.below (Nat.le_refl _) (fun _ h => h.elim))
end Go.Proofs.YtnpkcneojilmkaaDoor.Mem
end
section
namespace Go.Proofs.YtnpkcneojilmkaaDoor.Mem
open Go.ChangeShapes Go.WideShapes Go.ChangeAt Go.RowKit Base Byt Txt Bk Hp Head Num Path Block Rec Go.Lib
set_option linter.unusedVariables false
set_option maxRecDepth 100000
theorem putM_len {m:MemV} (h:GoodM m):(putM m).length≤3000000:=by
 have hb:=(blocks_ge m.body.length).2;have hl:=(blocks_ge (linesD (recsM m)).length).2;have hq:=linesM_le h;have hq2:=h.body;obtain ⟨H,_,h2,_,(⟨_,e⟩ | ⟨X,_,x2,_,e⟩)⟩:=put_laid h
 ·rw [e,List.length_append,padB_length,h2];omega
 ·rw [e,List.length_append,List.length_append,List.length_append,padB_length,padB_length,h2,x2];omega
theorem putAllM_len:∀ (ms:List MemV),(∀ m ∈ ms,GoodM m) → (putAllM ms).length≤ms.length * 3000000
 | [],_ => Nat.zero_le _
 | m :: ms,h => by
   rw [putAllM_cons,List.length_append,List.length_cons];have h1:=putM_len (h m (List.mem_cons_self ..));have h2:=putAllM_len ms (fun x hx => h x (List.mem_cons_of_mem _ hx))
   omega
theorem takeP_succ (xs:List MP) (k:Nat) (h:k < xs.length):(xs.take (k+1)).map MP.m=(xs.take k).map MP.m++[(xs.getD k zeroP).m]:=by
 rw [List.take_succ_eq_append_getElem h,List.map_append,List.getD,List.getElem?_eq_getElem h];rfl
theorem getP_mem (xs:List MP) (k:Nat) (h:k < xs.length):xs.getD k zeroP ∈ xs:=by
 rw [List.getD,List.getElem?_eq_getElem h];exact List.getElem_mem h
end Go.Proofs.YtnpkcneojilmkaaDoor.Mem
end
section
namespace Go.Proofs.YtnpkcneojilmkaaDoor.Wr
open Go.ChangeShapes Go.WideShapes Go.ChangeAt Go.RowKit Base Byt Txt Bk Hp Head Rec Attr Mem Block Go.Lib
set_option linter.unusedVariables false
set_option maxRecDepth 100000
def Fit (xs:List MP):Prop:=∀ x ∈ xs,x.m.path.length≤1000000000000∧x.m.target.length≤1000000000000
def allG (xs:List MP):Bool:=xs.all fun x => goodD x.m
theorem allG_iff {xs:List MP}:allG xs=true ↔ ∀ x ∈ xs,goodD x.m=true:=by simp [allG]
theorem takeMP_succ (xs:List MP) (k:Nat) (h:k < xs.length):xs.take (k+1)=xs.take k++[xs.getD k zeroP]:=by
 rw [List.take_succ_eq_append_getElem h,List.getD,List.getElem?_eq_getElem h];rfl
set_option maxHeartbeats 1000000 in
theorem notGood_any (m:MemV) (p:Option Addr) (c:Nat) (w:World) (h1:m.path.length≤1000000000000) (h2:m.target.length≤1000000000000) (hN:Need w) :
 Calls Tryd.prog 26 #[.agg (memC m p c)] w fun e w' => e=.returned (.bool (!goodD m))∧Below w.heap.size w w':=by
 obtain ⟨W0,hW0⟩:∃ W0,w.alloc (.cells (memC m p c) 26)=W0:=⟨_,rfl⟩;have hB0:Below w.heap.size w W0:=by rw [← hW0];exact (Below.refl _ _).alloc (Nat.le_refl _) _
 have hG:=memGood_any m p c W0 h1 h2 (hN.below hB0).tabs;obtain ⟨r,hr⟩:∃ r,goodD m=r:=⟨_,rfl⟩;rw [hr] at hG ⊢;have HB0:=Lib.hid hB0;have HW0:=Lib.hid hW0;have HG:=Lib.hid hG;unfold memC at HW0 HG ⊢;clear hB0 hW0 hG hr
 go_enter Tryd.func26,Tryd.ntmps26
 go_wp2_with fail
 rw [HW0.out];refine HG.out.mono ?_
 rintro e w1 ⟨rfl,hb1⟩;have FIN:=Lib.hid (HB0.out.trans (hb1.mono HB0.out.size));clear hb1
 go_wp2
 go_ret
 exact ⟨rfl,FIN.out⟩
def IdxPost (xs:List MP) (w:World) (e:Ending) (w':World):Prop:=∃ k:Int,e=.returned (.int .i64 k)∧decide (0≤k)=!allG xs∧Below w.heap.size w w'
set_option maxHeartbeats 2000000 in
theorem index_any (p:Option Addr) (n c:Nat) (xs:List MP) (w:World) (h:MemsAt w p n xs) (hn:n≤100000) (hF:Fit xs) (hN:Need w) :
 Calls Tryd.prog 39 #[.slice p n c,.func (.func 26) #[] #[]] w (IdxPost xs w):=by
 have HM:=Lib.hid h;have HL:=Lib.hid h.1;have HF:=Lib.hid hF;have HN:=Lib.hid hN;clear h hF hN
 go_enter Tryd.func39,Tryd.ntmps39
 go_wp2_with fail
 go_loopw [5,8] (fun _ i wr => ∃ (j:Nat),j≤n∧i=.int .i64 (j:Int)∧Hid (∀ x ∈ xs.take j,goodD x.m=true)∧Hid (Below w.heap.size w wr)) (fun _ i _ => n - (RowKit.intOf i).toNat)
 case atStart => exact ⟨0,Nat.zero_le _,rfl,Lib.hid (by simp),Lib.hid (Below.refl _ _)⟩
 case round =>
  obtain ⟨j,hj,rfl,hA,hB⟩:=hrel
  by_cases hlt:j < n
  ·have hlx:j < xs.length:=by rw [HL.out];exact hlt
   have hmem:=getP_mem xs j hlx;have hT:=takeMP_succ xs j hlx;have hfit:=HF.out _ hmem;obtain ⟨b,o,rfl,hb,hBd,c0,c1,c2,c3,c4,c5,c6,c7⟩:=(HM.out.below hB.out).cells hlt;obtain ⟨y,hy⟩:∃ y,xs.getD j zeroP=y:=⟨_,rfl⟩;rw [hy] at hT hmem hfit hBd c0 c1 c2 c3 c4 c5 c6 c7;rw [Nat.mul_comm] at c0 c1 c2 c3 c4 c5 c6 c7;have hG:=notGood_any y.m y.p y.c wr hfit.1 hfit.2 (HN.out.below hB.out);unfold memC at hG;obtain ⟨r,hr⟩:∃ r,goodD y.m=r:=⟨_,rfl⟩;rw [hr] at hG;have HT:=Lib.hid hT;have HR:=Lib.hid hr;have HMM:=Lib.hid hmem;have HG:=Lib.hid hG;have hltz:(j:Int) < (n:Int):=by omega
   clear hT hb hy hG hr hmem hlx hfit hBd
   cases r with
   | true =>
     go_wp2_with fail
     refine HG.out.mono ?_
     rintro e w2 ⟨rfl,hb2⟩;have HB2:=Lib.hid (hB.out.trans (hb2.mono hB.out.size));clear hb2 c0 c1 c2 c3 c4 c5 c6 c7
     go_wp2
     go_roundw
     case rel => exact ⟨j+1,by omega,by go_num,Lib.hid (fun x hx => by
      rw [HT.out,List.mem_append] at hx;rcases hx with hx | hx
      ·exact hA.out x hx
      ·rw [List.mem_singleton.1 hx];exact HR.out),HB2⟩
     case measure => simp [RowKit.intOf];omega
   | false =>
     go_wp2_with fail
     refine HG.out.mono ?_
     rintro e w2 ⟨rfl,hb2⟩;have HB2:=Lib.hid (hB.out.trans (hb2.mono hB.out.size))
     have E:Hid (allG xs=false):=Lib.hid (by
      rw [Bool.eq_false_iff];intro h;have:=allG_iff.1 h _ HMM.out;rw [HR.out] at this
      cases this)
     clear hb2 c0 c1 c2 c3 c4 c5 c6 c7
     go_wp2
     go_ret
     exact ⟨(j:Int),rfl,by rw [E.out];simp,HB2.out⟩
  ·have hks:¬ ((j:Int) < (n:Int)):=by omega
   have E:Hid (allG xs=true):=Lib.hid (allG_iff.2 (fun x hx => hA.out x (by rw [List.take_of_length_le (by rw [HL.out];omega)];exact hx)))
   go_wp2
   go_ret
   exact ⟨-1,rfl,by rw [E.out];decide,hB.out⟩
set_option maxHeartbeats 1000000 in
theorem contains_any (p:Option Addr) (n c:Nat) (xs:List MP) (w:World) (h:MemsAt w p n xs) (hn:n≤100000) (hF:Fit xs) (hN:Need w) :
 Calls Tryd.prog 25 #[.slice p n c,.func (.func 26) #[] #[]] w fun e w' => e=.returned (.bool (!allG xs))∧Below w.heap.size w w':=by
 have HI:=Lib.hid (index_any p n c xs w h hn hF hN);clear h hF hN
 go_enter Tryd.func25,Tryd.ntmps25
 go_wp2_with fail
 refine HI.out.mono ?_
 rintro e w1 ⟨k,rfl,hk,hb⟩;have HB:=Lib.hid hb;clear hb
 go_wp2
 go_ret
 exact ⟨by first | rw [hk] | rfl,HB.out⟩
end Go.Proofs.YtnpkcneojilmkaaDoor.Wr
end
section
namespace Go.Proofs.YtnpkcneojilmkaaDoor.Wr
open Go.ChangeShapes Go.WideShapes Go.ChangeAt Go.RowKit Base Byt Txt Bk Hp Head Rec Attr Mem Block Go.Lib
set_option linter.unusedVariables false
set_option maxRecDepth 100000
theorem warch_bad (p:Option Addr) (n c:Nat) (xs:List MP) (w:World) (h:MemsAt w p n xs) (hn:n≤100000) (hF:Fit xs) (hA:allG xs=false) (hN:Need w) :
 Calls Tryd.prog 12 #[.slice p n c] w (NonePost w 1):=by
 have hC:=contains_any p n c xs w h hn hF hN;rw [hA] at hC;have HC:=Lib.hid hC;clear h hF hN hA hC
 go_enter Tryd.func12,Tryd.ntmps12
 go_wp2_with fail
 refine HC.out.mono ?_
 rintro e w1 ⟨rfl,hb⟩;have HB:=Lib.hid hb;clear hb
 go_wp2
 go_ret2
 exact ⟨rfl,HB.out⟩
structure ArchI (w:World) (g:Nat) (xs:List MP) (j:Nat) (wr:World):Prop where
 snk:∃ v,Snk wr g w.heap.size v (putAllM ((xs.take j).map MP.m))
 bel:Below w.heap.size w wr
theorem ArchI.below {w wr w':World} {g j:Nat} {xs:List MP} (h:ArchI w g xs j wr) (hb:Below wr.heap.size wr w'):ArchI w g xs j w':=by
 obtain ⟨v,hv⟩:=h.snk;exact ⟨⟨v,hv.kept (Kept.of_below hb noneB) id (fun _ _ => id)⟩,h.bel.trans (hb.mono h.bel.size)⟩
set_option maxHeartbeats 4000000 in
theorem warch_yes (p:Option Addr) (n c:Nat) (xs:List MP) (w:World) (h:MemsAt w p n xs) (hn:n≤4096) (hA:∀ x ∈ xs,goodD x.m=true) (hN:Need w) :
 Calls Tryd.prog 12 #[.slice p n c] w (BytesPost w (archD (xs.map MP.m))):=by
 have hgm:∀ x ∈ xs,GoodM x.m:=fun x hx => good_facts (hA x hx)
 have hC:=contains_any p n c xs w h (by omega) (fun x hx => ⟨by have:=(hgm x hx).pathL;omega,by have:=(hgm x hx).targL;omega⟩) hN
 rw [allG_iff.2 hA] at hC
 have hlen:∀ j,(putAllM ((xs.take j).map MP.m)).length≤12288000000:=fun j => by
  have:=putAllM_len ((xs.take j).map MP.m) (fun m hm => by
   obtain ⟨x,hx,rfl⟩:=List.mem_map.1 hm
   exact hgm x (List.mem_of_mem_take hx))
  rw [List.length_map,List.length_take] at this;have h1:=h.1;omega
 have hm:¬ (4096:Int) < (n:Int):=by omega
 have HC:=Lib.hid hC;have HM:=Lib.hid h;have HL:=Lib.hid h.1;have HGM:=Lib.hid hgm;have HLEN:=Lib.hid hlen;have HN:=Lib.hid hN;clear h hA hN hC hgm hlen
 go_enter Tryd.func12,Tryd.ntmps12
 go_wp2_with fail
 refine HC.out.mono ?_
 rintro e w1 ⟨rfl,hb1⟩;have HB1:=Lib.hid hb1;clear hb1
 go_wp2_with fail
 obtain ⟨w2,hw2⟩:∃ w2,w1.alloc (.cells #[.slice none 0 0] 40)=w2:=⟨_,rfl⟩;have hs2:Snk w2 w1.heap.size w.heap.size (.slice none 0 0) []:=by rw [← hw2];exact snk_made w1 _
 have hb12:Below w1.heap.size w1 w2:=by rw [← hw2];exact (Below.refl _ _).alloc (Nat.le_refl _) _
 have HI0:Hid (ArchI w w1.heap.size xs 0 w2):=Lib.hid ⟨⟨_,by simpa [putAllM] using hs2⟩,HB1.out.trans (hb12.mono HB1.out.size)⟩
 have HZ1:Hid (w.heap.size≤w1.heap.size):=Lib.hid HB1.out.size;obtain ⟨g,hg⟩:∃ g,w1.heap.size=g:=⟨_,rfl⟩;rw [hg] at HI0 HZ1 ⊢;rw [hw2];clear hs2 hb12 hw2 hg
 go_loopw [6,15] (fun _ i wr => ∃ (j:Nat),j≤n∧i=.int .i64 (j:Int)∧Hid (ArchI w g xs j wr)) (fun _ i _ => n - (RowKit.intOf i).toNat)
 case atStart => exact ⟨0,Nat.zero_le _,rfl,HI0⟩
 case round =>
  obtain ⟨j,hj,rfl,hI⟩:=hrel
  by_cases hlt:j < n
  ·have hlx:j < xs.length:=by rw [HL.out];exact hlt
   have hGy:=HGM.out _ (getP_mem xs j hlx);have hT:=takeP_succ xs j hlx;obtain ⟨b,o,rfl,hb,hBd,c0,c1,c2,c3,c4,c5,c6,c7⟩:=(HM.out.below hI.out.bel).cells hlt
   have hbat:∀ x,0 < (xs.getD j zeroP).m.body.length → (xs.getD j zeroP).p=some x → x.block < w.heap.size:=fun x h0 hx => by
    obtain ⟨b',o',he,hbw,_⟩:=(HM.out.cells hlt).choose_spec.choose_spec.2.2.1.bat.cell h0;rw [hx] at he
    cases he
    exact hbw
   obtain ⟨y,hy⟩:∃ y,xs.getD j zeroP=y:=⟨_,rfl⟩;rw [hy] at hT hGy hBd c0 c1 c2 c3 c4 c5 c6 c7 hbat;rw [Nat.mul_comm] at c0 c1 c2 c3 c4 c5 c6 c7;obtain ⟨W,hW⟩:∃ W,wr.alloc (.cells #[.string (str y.m.path),.string (str y.m.target),.int .u8 (y.m.kind.toNat:Int),.int .i64 y.m.mode,.int .i64 y.m.uid,.int .i64 y.m.gid,.int .i64 y.m.time,.slice y.p y.m.body.length y.c] 26)=W:=⟨_,rfl⟩;have hbW:Below wr.heap.size wr W:=by rw [← hW];exact (Below.refl _ _).alloc (Nat.le_refl _) _
   have hIW:=hI.out.below hbW;obtain ⟨v,hv⟩:=hIW.snk
   have hLY:=lay_any W g w.heap.size v _ hv hIW.bel.size y.m y.p y.c hGy (hBd.bat.below hbW) (fun h0 x hx e => by
    have h1:=hbat x h0 hx;have h2:=(hv.own.lt _ e).1
    omega) (by have:=HLEN.out j;omega) (HN.out.below hIW.bel)
   unfold memC at hLY;have HLY:=Lib.hid hLY;have HT:=Lib.hid hT;have HW:=Lib.hid hW;have HIW:=Lib.hid hIW;have HV:=Lib.hid hv;have hltz:(j:Int) < (n:Int):=by omega
   clear hT hb hy hLY hlx hW hbW hIW hv hbat hBd hGy
   go_upto_region 9 with fail
   rw [HW.out];have m0:W.cell? ⟨wr.heap.size,0,none⟩=some (.string (str y.m.path)):=by rw [← HW.out];exact (Blk.new wr _ _).cell 0
   have m1:W.cell? ⟨wr.heap.size,1,none⟩=some (.string (str y.m.target)):=by rw [← HW.out];exact (Blk.new wr _ _).cell 1
   have m2:W.cell? ⟨wr.heap.size,2,none⟩=some (.int .u8 (y.m.kind.toNat:Int)):=by rw [← HW.out];exact (Blk.new wr _ _).cell 2
   have m3:W.cell? ⟨wr.heap.size,3,none⟩=some (.int .i64 y.m.mode):=by rw [← HW.out];exact (Blk.new wr _ _).cell 3
   have m4:W.cell? ⟨wr.heap.size,4,none⟩=some (.int .i64 y.m.uid):=by rw [← HW.out];exact (Blk.new wr _ _).cell 4
   have m5:W.cell? ⟨wr.heap.size,5,none⟩=some (.int .i64 y.m.gid):=by rw [← HW.out];exact (Blk.new wr _ _).cell 5
   have m6:W.cell? ⟨wr.heap.size,6,none⟩=some (.int .i64 y.m.time):=by rw [← HW.out];exact (Blk.new wr _ _).cell 6
   have m7:W.cell? ⟨wr.heap.size,7,none⟩=some (.slice y.p y.m.body.length y.c):=by rw [← HW.out];exact (Blk.new wr _ _).cell 7
   go_wp2_with fail
   refine HLY.out.mono ?_
   rintro e w3 ⟨v3,rfl,hs3,hk3,hn3⟩
   have HI3:Hid (ArchI w g xs (j+1) w3):=Lib.hid ⟨⟨v3,by
    have e:putAllM ((xs.take (j+1)).map MP.m)=putAllM ((xs.take j).map MP.m)++putM y.m:=by
     rw [HT.out,putAllM_app,putAllM_cons];simp [putAllM]
    rw [e]
    exact hs3⟩,HIW.out.bel.trans (hk3.below HIW.out.bel.size (fun k hk => by
     rcases hk with hk | hk
     ·rw [hk];exact HZ1.out
     ·exact (HV.out.own.lt _ hk).1))⟩
   clear hs3 hk3 hn3 m0 m1 m2 m3 m4 m5 m6 m7 c0 c1 c2 c3 c4 c5 c6 c7
   go_wp2
   go_roundw
   case rel => exact ⟨j+1,by omega,by go_num,HI3⟩
   case measure => simp [RowKit.intOf];omega
  ·have hks:¬ ((j:Int) < (n:Int)):=by omega
   have e:xs.take j=xs:=List.take_of_length_le (by rw [HL.out];omega)
   obtain ⟨v,hv⟩:=hI.out.snk;have hl:=HLEN.out j;rw [e] at hv hl;have HE:=Lib.hid (end_any wr g w.heap.size v _ hv hI.out.bel.size (by omega))
   have HV:=Lib.hid hv;have HLL:=Lib.hid hl;clear hv hl e
   go_wp2_with fail
   refine HE.out.mono ?_
   rintro e w4 ⟨v4,rfl,hs4,hk4,_⟩;rw [← archD_eq] at hs4
   have HB4:Hid (Below w.heap.size w w4):=Lib.hid (hI.out.bel.trans (hk4.below hI.out.bel.size (fun k hk => by
    rcases hk with hk | hk
    ·rw [hk];exact HZ1.out
    ·exact (HV.out.own.lt _ hk).1)))
   have HO:=Lib.hid (out_any w4 g w.heap.size v4 _ hs4 (by rw [archD_eq,List.length_append,List.length_replicate];have:=HLL.out;omega))
   clear hs4 hk4
   go_wp2_with fail
   refine HO.out.mono ?_
   rintro e w5 ⟨v5,rfl,ho5,hk5⟩;have FIN:Hid (OwnB w5 w.heap.size v5 (archD (xs.map MP.m)).length (archD (xs.map MP.m))∧Below w.heap.size w w5):=Lib.hid ⟨ho5.mono HB4.out.size,HB4.out.trans (hk5.below HB4.out.size (fun _ h => h.elim))⟩
   clear ho5 hk5
   go_wp2
   go_ret2
   exact ⟨v5,rfl,FIN.out⟩
theorem sizeM_take (xs:List MP) (K:Nat) (hK:∀ m,GoodM m → (putM m).length≤K) (j:Nat):sizeM ((xs.take j).map MP.m)≤j * K:=by
 induction j with
 | zero => simp [sizeM]
 | succ j ih =>
   rw [Nat.succ_mul]
   by_cases hj:j < xs.length
   ·rw [takeP_succ xs j hj,sizeM_snoc]
    split
    ·rename_i hg
     have:=hK _ (good_facts hg);omega
    ·omega
   ·rw [List.take_of_length_le (by omega)] at ih ⊢
    omega
set_option maxHeartbeats 4000000 in
theorem wsize_any (p:Option Addr) (n c:Nat) (xs:List MP) (w:World) (h:MemsAt w p n xs) (hn:n≤100000) (hF:Fit xs) (hN:Need w) :
 Calls Tryd.prog 10 #[.slice p n c] w fun e w' => e=.returned (.int .i64 (sizeM (xs.map MP.m):Nat))∧Below w.heap.size w w':=by
 have hlen:∀ j,sizeM ((xs.take j).map MP.m)≤j * 3000000:=fun j => sizeM_take xs 3000000 (fun m hm => putM_le hm) j
 have HM:=Lib.hid h;have HL:=Lib.hid h.1;have HF:=Lib.hid hF;have HLEN:=Lib.hid hlen;have HN:=Lib.hid hN;clear h hF hN hlen
 go_enter Tryd.func10,Tryd.ntmps10
 go_wp2_with fail
 go_loopw [3,5,6,7,10] (fun s _ _ _ i wr => ∃ (j S:Nat),j≤n∧i=.int .i64 (j:Int)∧s=.int .i64 (S:Int)∧Hid (sizeM ((xs.take j).map MP.m)=S)∧Hid (Below w.heap.size w wr)) (fun _ _ _ _ i _ => n - (RowKit.intOf i).toNat)
 case atStart => exact ⟨0,0,Nat.zero_le _,rfl,rfl,Lib.hid (by simp [sizeM]),Lib.hid (Below.refl _ _)⟩
 case round =>
  obtain ⟨j,S,hj,rfl,rfl,hS,hB⟩:=hrel
  by_cases hlt:j < n
  ·have hlx:j < xs.length:=by rw [HL.out];exact hlt
   have hfit:=HF.out _ (getP_mem xs j hlx);have hT:=takeP_succ xs j hlx;obtain ⟨b,o,rfl,hb,hBd,c0,c1,c2,c3,c4,c5,c6,c7⟩:=(HM.out.below hB.out).cells hlt;obtain ⟨y,hy⟩:∃ y,xs.getD j zeroP=y:=⟨_,rfl⟩;rw [hy] at hT hfit hBd c0 c1 c2 c3 c4 c5 c6 c7;rw [Nat.mul_comm] at c0 c1 c2 c3 c4 c5 c6 c7;obtain ⟨W,hW⟩:∃ W,wr.alloc (.cells #[.string (str y.m.path),.string (str y.m.target),.int .u8 (y.m.kind.toNat:Int),.int .i64 y.m.mode,.int .i64 y.m.uid,.int .i64 y.m.gid,.int .i64 y.m.time,.slice y.p y.m.body.length y.c] 26)=W:=⟨_,rfl⟩;have hbW:Below wr.heap.size wr W:=by rw [← hW];exact (Below.refl _ _).alloc (Nat.le_refl _) _
   have hBW:=hB.out.trans (hbW.mono hB.out.size);have hSb:S≤j * 3000000:=by rw [← hS.out];exact HLEN.out j
   have hSb2:S≤300000000000:=by omega
   have HW:=Lib.hid hW;have HBW:=Lib.hid hBW;have HT:=Lib.hid hT;have HFT:=Lib.hid hfit;have HBD:=Lib.hid (hBd.bat.below hbW);have hltz:(j:Int) < (n:Int):=by omega
   clear hT hb hy hlx hW hbW hBW hfit hBd hSb
   go_upto_region 5 with fail
   rw [HW.out];have m0:W.cell? ⟨wr.heap.size,0,none⟩=some (.string (str y.m.path)):=by rw [← HW.out];exact (Blk.new wr _ _).cell 0
   have m1:W.cell? ⟨wr.heap.size,1,none⟩=some (.string (str y.m.target)):=by rw [← HW.out];exact (Blk.new wr _ _).cell 1
   have m2:W.cell? ⟨wr.heap.size,2,none⟩=some (.int .u8 (y.m.kind.toNat:Int)):=by rw [← HW.out];exact (Blk.new wr _ _).cell 2
   have m3:W.cell? ⟨wr.heap.size,3,none⟩=some (.int .i64 y.m.mode):=by rw [← HW.out];exact (Blk.new wr _ _).cell 3
   have m4:W.cell? ⟨wr.heap.size,4,none⟩=some (.int .i64 y.m.uid):=by rw [← HW.out];exact (Blk.new wr _ _).cell 4
   have m5:W.cell? ⟨wr.heap.size,5,none⟩=some (.int .i64 y.m.gid):=by rw [← HW.out];exact (Blk.new wr _ _).cell 5
   have m6:W.cell? ⟨wr.heap.size,6,none⟩=some (.int .i64 y.m.time):=by rw [← HW.out];exact (Blk.new wr _ _).cell 6
   have m7:W.cell? ⟨wr.heap.size,7,none⟩=some (.slice y.p y.m.body.length y.c):=by rw [← HW.out];exact (Blk.new wr _ _).cell 7
   cases hg:goodD y.m with
   | false =>
     have hP:=wput_no y.m y.p y.c W HFT.out.1 HFT.out.2 hg (HN.out.below HBW.out);unfold memC at hP;have HP:=Lib.hid hP
     have HS1:Hid (sizeM ((xs.take (j+1)).map MP.m)=S):=Lib.hid (by
      rw [HT.out,sizeM_snoc,hg,hS.out,if_neg (by simp),Nat.add_zero])
     clear hP hg
     go_wp2_with fail
     refine HP.out.mono ?_
     rintro e w3 ⟨rfl,hb3⟩;have HB3:=Lib.hid (HBW.out.trans (hb3.mono HBW.out.size));clear hb3 m0 m1 m2 m3 m4 m5 m6 m7 c0 c1 c2 c3 c4 c5 c6 c7
     go_wp2
     go_roundw
     case rel => exact ⟨j+1,S,by omega,by go_num,rfl,HS1,HB3⟩
     case measure => simp [RowKit.intOf];omega
   | true =>
     have hP:=wput_yes y.m y.p y.c W hg HBD.out (HN.out.below HBW.out);obtain ⟨k,hk⟩:∃ k,(putM y.m).length=k:=⟨_,rfl⟩;have hkl:k≤3000000:=by rw [← hk];exact putM_le (good_facts hg)
     unfold memC at hP;have HP:=Lib.hid hP;have HK:=Lib.hid hk
     have HS1:Hid (sizeM ((xs.take (j+1)).map MP.m)=S+k):=Lib.hid (by
      rw [HT.out,sizeM_snoc,hg,hS.out,if_pos rfl,hk])
     clear hP hg hk
     go_wp2_with fail
     refine HP.out.mono ?_
     rintro e w3 ⟨v3,rfl,ho3,hb3⟩;have HB3:=Lib.hid (HBW.out.trans (hb3.mono HBW.out.size));obtain ⟨p3,d3,rfl,_⟩:=ho3.slice;rw [HK.out];clear hb3 ho3 m0 m1 m2 m3 m4 m5 m6 m7 c0 c1 c2 c3 c4 c5 c6 c7
     go_wp2
     go_roundw
     case rel => exact ⟨j+1,S+k,by omega,by go_num,by go_num,HS1,HB3⟩
     case measure => simp [RowKit.intOf];omega
  ·have hks:¬ ((j:Int) < (n:Int)):=by omega
   have E:Hid (sizeM (xs.map MP.m)=S):=Lib.hid (by rw [← hS.out,List.take_of_length_le (by rw [HL.out];omega)])
   go_wp2
   go_ret
   exact ⟨by rw [E.out];rfl,hB.out⟩
end Go.Proofs.YtnpkcneojilmkaaDoor.Wr
end
section
namespace Go.Proofs.YtnpkcneojilmkaaDoor.Wr
open Go.ChangeShapes Go.WideShapes Go.ChangeAt Go.RowKit Base Byt Txt Bk Hp Head Rec Attr Mem Block Go.Lib
set_option linter.unusedVariables false
set_option maxRecDepth 100000
def sumL (ms:List MemV):Nat:=(ms.map fun m => m.body.length).sum
def okL (m:MemV):Bool:=decide (m.path.length≤2000) && (decide (m.target.length≤2000) && decide (m.body.length≤100000))
def lightD (ms:List MemV):Bool:=decide (ms.length≤60) && (ms.all okL && decide (sumL ms≤200000))
theorem sumL_snoc (ms:List MemV) (m:MemV):sumL (ms++[m])=sumL ms+m.body.length:=by simp [sumL]
theorem lightD_facts {ms:List MemV} (h:lightD ms=true):ms.length≤60∧(∀ m ∈ ms,m.path.length≤2000∧m.target.length≤2000∧m.body.length≤100000):=by
 simp only [lightD,Bool.and_eq_true,decide_eq_true_eq,List.all_eq_true,okL] at h;exact ⟨h.1,h.2.1⟩
set_option maxHeartbeats 4000000 in
theorem light_any (p:Option Addr) (n c:Nat) (xs:List MP) (w:World) (hM:MemsAt w p n xs) (hR:∀ x ∈ xs,RoomM x) :
 Calls Tryd.prog 6 #[.slice p n c] w fun e w' => e=.returned (.bool (lightD (xs.map MP.m)))∧w=w':=by
 have HM:=Lib.hid hM;have HL:=Lib.hid hM.1;have HR:=Lib.hid hR;clear hM hR
 go_enter Tryd.func6,Tryd.ntmps6
 go_wp2
 go_loop [3,4] (fun s i => ∃ (k S:Nat),k≤n∧i=.int .i64 (k:Int)∧s=.int .i64 (S:Int)∧(k=0 ∨ n≤60)∧S≤k * 100000∧Hid (sumL ((xs.take k).map MP.m)=S)∧Hid (∀ m ∈ (xs.take k).map MP.m,okL m=true)) (fun _ i => n - (RowKit.intOf i).toNat)
 case atStart => exact ⟨0,0,Nat.zero_le _,rfl,rfl,.inl rfl,Nat.zero_le _,Lib.hid rfl,Lib.hid (by simp)⟩
 case round =>
  obtain ⟨k,S,hk,rfl,rfl,hk60,hS,hE,hG⟩:=hrel
  by_cases hlt:k < n
  ·have hlx:k < xs.length:=by rw [HL.out];exact hlt
   have hT:=takeP_succ xs k hlx;have hmem:=getP_mem xs k hlx;have hrm:=HR.out _ hmem;obtain ⟨b,o,rfl,hb,hBd,c0,c1,c2,c3,c4,c5,c6,c7⟩:=HM.out.cells hlt;obtain ⟨y,hy⟩:∃ y,xs.getD k zeroP=y:=⟨_,rfl⟩;rw [hy] at hT hmem hrm hBd c0 c1 c7;rw [Nat.mul_comm] at c0 c1 c7;have hs0:(str y.m.path).size=y.m.path.length:=str_size _;have hs1:(str y.m.target).size=y.m.target.length:=str_size _;obtain ⟨pl,hpl⟩:∃ pl,y.m.path.length=pl:=⟨_,rfl⟩;obtain ⟨tl,htl⟩:∃ tl,y.m.target.length=tl:=⟨_,rfl⟩;obtain ⟨bl,hbl⟩:∃ bl,y.m.body.length=bl:=⟨_,rfl⟩;have HY:Hid (y.m.path.length=pl∧y.m.target.length=tl∧y.m.body.length=bl):=Lib.hid ⟨hpl,htl,hbl⟩
   have hblm:bl≤140737488351232:=by rw [← hbl];have:=hBd.le;have:=hrm.2.2;omega
   rw [hpl] at hs0;rw [htl] at hs1;rw [hbl] at c7;have HT:=Lib.hid hT;have HMM:Hid (y.m ∈ xs.map MP.m):=Lib.hid (List.mem_map_of_mem hmem);have hltz:(k:Int) < (n:Int):=by omega
   clear hT hb hy hlx hmem hrm hBd c2 c3 c4 c5 c6 hpl htl hbl
   by_cases h60:60 < n
   ·have E:Hid (lightD (xs.map MP.m)=false):=Lib.hid (by
     unfold lightD
     rw [List.length_map,HL.out,decide_eq_false (by omega),Bool.false_and])
    have h60i:(60:Int) < (n:Int):=by omega
    go_wp2
    go_ret
    exact ⟨by rw [E.out];rfl,rfl⟩
   ·have h60i:¬ ((60:Int) < (n:Int)):=by omega
    by_cases hok:okL y.m=true
    ·have hok2:=hok
     unfold okL at hok2;rw [HY.out.1,HY.out.2.1,HY.out.2.2] at hok2;simp only [Bool.and_eq_true,decide_eq_true_eq] at hok2;obtain ⟨a1,a2,a3⟩:=hok2;have i1:¬ (2000:Int) < (pl:Int):=by omega
     have i2:¬ (2000:Int) < (tl:Int):=by omega
     have i3:¬ (100000:Int) < (bl:Int):=by omega
     have HOK:=Lib.hid hok;have HK2:Hid (S+bl≤(k+1) * 100000):=Lib.hid (by omega)
     have hSb:S≤6000000:=by omega
     have HN60:Hid (n≤60):=Lib.hid (by omega)
     clear hok a1 a2 hk60 hS
     go_wp2
     go_round
     case rel => exact ⟨k+1,S+bl,by omega,by go_num,by go_num,.inr HN60.out,HK2.out,Lib.hid (by rw [HT.out,sumL_snoc,hE.out,HY.out.2.2]),Lib.hid (fun m hm => by
      rw [HT.out,List.mem_append] at hm;rcases hm with hm | hm
      ·exact hG.out m hm
      ·rw [List.mem_singleton.1 hm];exact HOK.out)⟩
     case measure => simp [RowKit.intOf];omega
    ·have E:Hid (lightD (xs.map MP.m)=false):=Lib.hid (by
      rw [Bool.eq_false_iff];intro h;simp only [lightD,Bool.and_eq_true,List.all_eq_true] at h
      exact hok (h.2.1 _ HMM.out))
     have hor:2000 < pl ∨ (pl≤2000∧2000 < tl) ∨ (pl≤2000∧tl≤2000∧100000 < bl):=by
      unfold okL at hok;rw [HY.out.1,HY.out.2.1,HY.out.2.2] at hok;simp only [Bool.and_eq_true,decide_eq_true_eq] at hok;omega
     clear hok hk60 hS;rcases hor with i1 | ⟨i1,i2⟩ | ⟨i1,i2,i3⟩
     ·have j1:(2000:Int) < (pl:Int):=by omega
      go_wp2
      go_ret
      exact ⟨by rw [E.out];rfl,rfl⟩
     ·have j1:¬ (2000:Int) < (pl:Int):=by omega
      have j2:(2000:Int) < (tl:Int):=by omega
      go_wp2
      go_ret
      exact ⟨by rw [E.out];rfl,rfl⟩
     ·have j1:¬ (2000:Int) < (pl:Int):=by omega
      have j2:¬ (2000:Int) < (tl:Int):=by omega
      have j3:(100000:Int) < (bl:Int):=by omega
      go_wp2
      go_ret
      exact ⟨by rw [E.out];rfl,rfl⟩
  ·have hks:¬ ((k:Int) < (n:Int)):=by omega
   have e:xs.take k=xs:=List.take_of_length_le (by rw [HL.out];omega)
   have E:Hid (lightD (xs.map MP.m)=decide (S≤200000)):=Lib.hid (by
    have h1:=hE.out;have h2:=hG.out;rw [e] at h1 h2;unfold lightD
    rw [h1,List.all_eq_true.2 h2,List.length_map,HL.out,decide_eq_true (show n≤60 by omega),Bool.true_and,Bool.true_and])
   clear e hk60 hS
   by_cases hS2:S≤200000
   ·have hS3:(S:Int)≤200000:=by omega
    have E2:Hid (lightD (xs.map MP.m)=true):=Lib.hid (by rw [E.out,decide_eq_true hS2])
    clear hS2
    go_wp2
    go_ret
    exact ⟨by rw [E2.out];rfl,rfl⟩
   ·have hS3:¬ (S:Int)≤200000:=by omega
    have hd:decide ((S:Int)≤200000)=false:=decide_eq_false hS3;have E2:Hid (lightD (xs.map MP.m)=false):=Lib.hid (by rw [E.out,decide_eq_false hS2])
    clear hS2
    go_wp2
    go_ret
    exact ⟨by rw [E2.out];rfl,rfl⟩
end Go.Proofs.YtnpkcneojilmkaaDoor.Wr
end
section
namespace Go.Proofs.YtnpkcneojilmkaaDoor.Wr
open Go.ChangeShapes Go.WideShapes Go.ChangeAt Go.RowKit Base Byt Txt Bk Hp Head Rec Attr Mem Block Go.Lib
set_option linter.unusedVariables false
set_option maxRecDepth 100000
def fileA:MemV:=⟨[97],[],48,0,0,0,0,[120]⟩
def dirA:MemV:=⟨[97],[],53,0,0,0,0,[]⟩
theorem fileA_good:goodD fileA=true:=by decide +kernel
theorem dirA_good:goodD dirA=true:=by decide +kernel
theorem zeroA_bad:goodD zeroM=false:=by decide +kernel
theorem mems_one {w:World} {b:Nat} {y:MP} (hb:Blk w b 26 y.cs) (hB:BodyAt w y):MemsAt w (some ⟨b,0,none⟩) 1 [y]:=by
 refine ⟨rfl,fun x hx => by rw [List.mem_singleton] at hx;subst hx;exact hB,fun _ => ⟨b,0,rfl,hb.lt,fun i hi j hj => ?_⟩⟩
 obtain rfl:i=0:=by omega
 rw [show 0+8 * 0+j=j by omega]
 exact hb.cell j
theorem archA:(archD [fileA]).length=2048∧(archD [fileA]).getD 0 0=97∧(archD [fileA]).getD 512 0=120:=by decide +kernel
theorem sizeA:sizeM [dirA]=512:=by
 have h:=putM_plain (good_facts dirA_good) (by decide +kernel)
 have e:blocksOf dirA.body.length=0:=by decide
 simp only [sizeM,List.map_cons,List.map_nil,dirA_good,if_true,List.sum_cons,List.sum_nil,h,e];rfl
theorem body_empty (w:World) (m:MemV) (h:m.body=[]):BodyAt w ⟨m,none,0⟩:=by
 refine ⟨?_,?_,?_⟩
 ·show BAt w none m.body.length m.body
  rw [h];exact fun h0 => absurd h0 (by decide)
 ·show m.body.length≤0
  rw [h];exact Nat.le_refl _
 ·show (0:Nat)≤_
  decide
set_option maxHeartbeats 4000000 in
theorem ans09_any (w:World) (hN:Need w):Calls Tryd.prog 7 #[] w fun e w' => e=.returned (.bool true)∧Below w.heap.size w w':=by
 have kc:(convert 24 24 (.slice (some ⟨w.heap.size,0,none⟩) 1 1)).run Tryd.prog (w.alloc (.cells #[.int .u8 120] 5))=.ok (.slice (some ⟨w.heap.size,0,none⟩) 1 1) (w.alloc (.cells #[.int .u8 120] 5 (1,2))):=
  Lib.run_convert_bytes_const (P:=Tryd.prog) w 24 5 #[.int .u8 120] 1 1 Tryd.underlying24 Tryd.underlying5
 obtain ⟨W1,hW1⟩:∃ W1,(w.alloc (.cells #[.int .u8 120] 5 (1,2))).alloc (.cells #[.string ⟨#[97]⟩,.string ⟨#[]⟩,.int .u8 48,.int .i64 0,.int .i64 0,.int .i64 0,.int .i64 0,.slice (some ⟨w.heap.size,0,none⟩) 1 1] 26)=W1:=⟨_,rfl⟩;have hB1:Below w.heap.size w W1:=by rw [← hW1];exact ((Below.refl _ w).alloc (Nat.le_refl _) _).alloc (by simp) _
 have hb1:Blk W1 (w.heap.size+1) 26 (MP.cs ⟨fileA,some ⟨w.heap.size,0,none⟩,1⟩):=by
  have:=Blk.new (w.alloc (.cells #[.int .u8 120] 5 (1,2))) 26 (MP.cs ⟨fileA,some ⟨w.heap.size,0,none⟩,1⟩);rw [World.size_alloc] at this;rw [← hW1];exact this
 have ht1:BAt W1 (some ⟨w.heap.size,0,none⟩) 1 [120]:=fun _ => ⟨w.heap.size,0,rfl,fun i hi => by
  obtain rfl:i=0:=by omega
  rw [← hW1]
  have:(w.alloc (.cells #[.int .u8 120] 5 (1,2))).cell? ⟨w.heap.size,0,none⟩=some (.int .u8 120):=by
   unfold World.cell?;rw [heap_alloc_new];rfl
  exact (((Below.refl (w.heap.size+1) (w.alloc (.cells #[.int .u8 120] 5 (1,2)))).alloc (by simp) _).cell (p:=⟨w.heap.size,0,none⟩) (by show w.heap.size < w.heap.size+1;omega)).trans this⟩
 have hm1:MemsAt W1 (some ⟨w.heap.size+1,0,none⟩) 1 [⟨fileA,some ⟨w.heap.size,0,none⟩,1⟩]:=mems_one hb1 ⟨ht1,by show (1:Nat)≤1;decide,by show (1:Nat)≤maxLen;decide⟩
 have hA:=warch_yes (some ⟨w.heap.size+1,0,none⟩) 1 1 [⟨fileA,some ⟨w.heap.size,0,none⟩,1⟩] W1 hm1 (by decide) (fun x hx => by rw [List.mem_singleton.1 hx];exact fileA_good) (hN.below hB1)
 have HW1:=Lib.hid hW1;have HB1:=Lib.hid hB1;have HA:=Lib.hid hA;have HN:=Lib.hid hN;clear hW1 hB1 hb1 ht1 hm1 hA hN
 go_enter Tryd.func7,Tryd.ntmps7
 go_wp2_with fail
 rw [HW1.out];refine HA.out.mono ?_
 rintro e w2 ⟨v2,rfl,ho2,hb2⟩;obtain ⟨p2,c2,rfl,_,_,hbt2,_,_⟩:=ho2.slice;rw [show ([⟨fileA,some ⟨w.heap.size,0,none⟩,1⟩]:List MP).map MP.m=[fileA] from rfl,archA.1] at hbt2 ⊢
 have HB2:=Lib.hid (HB1.out.trans (hb2.mono HB1.out.size));obtain ⟨b,o,rfl,hbw,hcell⟩:=hbt2.cell (show 0 < 2048 by decide)
 have k0:=hcell 0 (by decide)
 have k1:=hcell 512 (by decide)
 rw [archA.2.1,Nat.add_zero] at k0;rw [archA.2.2] at k1;have HK:=Lib.hid (And.intro hbw (And.intro k0 k1));obtain ⟨W3,hW3⟩:∃ W3,w2.alloc (.cells #[.string ⟨#[]⟩,.string ⟨#[]⟩,.int .u8 0,.int .i64 0,.int .i64 0,.int .i64 0,.int .i64 0,.slice none 0 0] 26)=W3:=⟨_,rfl⟩;have h23:Below w2.heap.size w2 W3:=by rw [← hW3];exact (Below.refl _ _).alloc (Nat.le_refl _) _
 have hm3:MemsAt W3 (some ⟨w2.heap.size,0,none⟩) 1 [⟨zeroM,none,0⟩]:=mems_one (by rw [← hW3];exact Blk.new w2 _ _) (body_empty W3 zeroM rfl)
 have HB3:=Lib.hid (HB2.out.trans (h23.mono HB2.out.size));have HA3:=Lib.hid (warch_bad (some ⟨w2.heap.size,0,none⟩) 1 1 [⟨zeroM,none,0⟩] W3 hm3 (by decide) (fun x hx => by rw [List.mem_singleton.1 hx];decide) (by show (goodD zeroM && true)=false;rw [zeroA_bad];rfl) (HN.out.below HB3.out))
 have HW3:=Lib.hid hW3;have H23:=Lib.hid h23;clear hb2 ho2 hbt2 hbw hcell k0 k1 hW3 h23 hm3
 go_wp2_with fail
 rw [HW3.out];refine HA3.out.mono ?_
 rintro e w4 ⟨rfl,hb4⟩;have HB4:=Lib.hid (HB3.out.trans (hb4.mono HB3.out.size));have h24:Below w2.heap.size w2 w4:=H23.out.trans (hb4.mono H23.out.size);have k0:w4.cell? ⟨b,o,none⟩=some (.int .u8 97):=(h24.cell (p:=⟨b,o,none⟩) HK.out.1).trans HK.out.2.1;have k1:w4.cell? ⟨b,o+512,none⟩=some (.int .u8 120):=(h24.cell (p:=⟨b,o+512,none⟩) HK.out.1).trans HK.out.2.2;obtain ⟨W5,hW5⟩:∃ W5,w4.alloc (.cells #[.string ⟨#[97]⟩,.string ⟨#[]⟩,.int .u8 53,.int .i64 0,.int .i64 0,.int .i64 0,.int .i64 0,.slice none 0 0] 26)=W5:=⟨_,rfl⟩;have h45:Below w4.heap.size w4 W5:=by rw [← hW5];exact (Below.refl _ _).alloc (Nat.le_refl _) _
 have hm5:MemsAt W5 (some ⟨w4.heap.size,0,none⟩) 1 [⟨dirA,none,0⟩]:=mems_one (by rw [← hW5];exact Blk.new w4 _ _) (body_empty W5 dirA rfl)
 have HB5:=Lib.hid (HB4.out.trans (h45.mono HB4.out.size));have hZ:=wsize_any (some ⟨w4.heap.size,0,none⟩) 1 1 [⟨dirA,none,0⟩] W5 hm5 (by decide) (fun x hx => by rw [List.mem_singleton.1 hx];decide) (HN.out.below HB5.out)
 rw [show ([⟨dirA,none,0⟩]:List MP).map MP.m=[dirA] from rfl,sizeA] at hZ
 have HZ:=Lib.hid hZ;have HW5:=Lib.hid hW5;clear hb4 h24 hW5 h45 hm5 hZ
 go_wp2_with fail
 rw [HW5.out];refine HZ.out.mono ?_
 rintro e w6 ⟨rfl,hb6⟩;have FIN:=Lib.hid (HB5.out.trans (hb6.mono HB5.out.size));clear hb6 k0 k1
 go_wp2
 go_ret
 exact ⟨rfl,FIN.out⟩
end Go.Proofs.YtnpkcneojilmkaaDoor.Wr
end
section
namespace Go.Proofs.YtnpkcneojilmkaaDoor.Wr
open Go.ChangeShapes Go.WideShapes Go.ChangeAt Go.RowKit Base Byt Txt Bk Hp Head Rec Attr Mem Block Go.Lib
set_option linter.unusedVariables false
set_option maxRecDepth 100000
def Box8 (w:World) (b:Nat) (y:MP):Prop:=
 w.cell? ⟨b,0,none⟩=some (.string (str y.m.path))∧w.cell? ⟨b,1,none⟩=some (.string (str y.m.target))∧w.cell? ⟨b,2,none⟩=some (.int .u8 (y.m.kind.toNat:Int))∧w.cell? ⟨b,3,none⟩=some (.int .i64 y.m.mode) ∧
  w.cell? ⟨b,4,none⟩=some (.int .i64 y.m.uid)∧w.cell? ⟨b,5,none⟩=some (.int .i64 y.m.gid)∧w.cell? ⟨b,6,none⟩=some (.int .i64 y.m.time)∧w.cell? ⟨b,7,none⟩=some (.slice y.p y.m.body.length y.c)
theorem box8_of {w:World} {b:Nat} {y:MP} (h:Blk w b 26 y.cs):Box8 w b y:=⟨h.cell 0,h.cell 1,h.cell 2,h.cell 3,h.cell 4,h.cell 5,h.cell 6,h.cell 7⟩
def cells16 (x y:MP):Array Value:=#[.string (str x.m.path),.string (str x.m.target),.int .u8 (x.m.kind.toNat:Int),.int .i64 x.m.mode,.int .i64 x.m.uid,.int .i64 x.m.gid,.int .i64 x.m.time,.slice x.p x.m.body.length x.c,
 .string (str y.m.path),.string (str y.m.target),.int .u8 (y.m.kind.toNat:Int),.int .i64 y.m.mode,.int .i64 y.m.uid,.int .i64 y.m.gid,.int .i64 y.m.time,.slice y.p y.m.body.length y.c]
theorem mems_two {w:World} {b:Nat} {x y:MP} (hb:Blk w b 26 (cells16 x y)) (hx:BodyAt w x) (hy:BodyAt w y):MemsAt w (some ⟨b,0,none⟩) 2 [x,y]:=by
 refine ⟨rfl,fun z hz => ?_,fun _ => ⟨b,0,rfl,hb.lt,fun i hi j hj => ?_⟩⟩
 ·rcases List.mem_cons.1 hz with rfl | hz
  ·exact hx
  ·rw [List.mem_singleton.1 hz];exact hy
 ·rw [hb.cell,Nat.zero_add]
  match i,hi,j,hj with
  | 0,_,0,_ => rfl
  | 0,_,1,_ => rfl
  | 0,_,2,_ => rfl
  | 0,_,3,_ => rfl
  | 0,_,4,_ => rfl
  | 0,_,5,_ => rfl
  | 0,_,6,_ => rfl
  | 0,_,7,_ => rfl
  | 1,_,0,_ => rfl
  | 1,_,1,_ => rfl
  | 1,_,2,_ => rfl
  | 1,_,3,_ => rfl
  | 1,_,4,_ => rfl
  | 1,_,5,_ => rfl
  | 1,_,6,_ => rfl
  | 1,_,7,_ => rfl
theorem one_at (x:MP) (W:World) (hB:BodyAt W x):MemsAt (W.alloc (.cells x.cs 26)) (some ⟨W.heap.size,0,none⟩) 1 [x]:=
 mems_one (Blk.new W _ _) (hB.below ((Below.refl _ _).alloc (Nat.le_refl _) _))
theorem light1_any (x:MP) (W:World) (hB:BodyAt W x) (hR:RoomM x) :
 Calls Tryd.prog 6 #[.slice (some ⟨W.heap.size,0,none⟩) 1 1] (W.alloc (.cells x.cs 26)) fun e w' => e=.returned (.bool (lightD [x.m]))∧Below W.heap.size W w':=
 (light_any _ 1 1 [x] _ (one_at x W hB) (fun y hy => by rw [List.mem_singleton.1 hy];exact hR)).mono fun _ _ ⟨h1,h2⟩ => ⟨h1,h2 ▸ (Below.refl _ _).alloc (Nat.le_refl _) _⟩
end Go.Proofs.YtnpkcneojilmkaaDoor.Wr
end
section
namespace Go.Proofs.YtnpkcneojilmkaaDoor.Wr
open Go.ChangeShapes Go.WideShapes Go.ChangeAt Go.RowKit Base Byt Txt Bk Mem Go.Lib
theorem fits_take {l:List UInt8} {k:Nat} (hk:k < l.length):fitsD (l.take (k+1))=(fitsD (l.take k) && decide ((l.getD k 0).toNat≤127)):=by
 have e:l.getD k 0=l[k]:=by rw [List.getD,List.getElem?_eq_getElem hk];rfl
 unfold fitsD;rw [List.take_succ_eq_append_getElem hk,List.all_append,e];simp only [List.all_cons,List.all_nil,Bool.and_true]
def plainA (m:MemV):Bool:=decide (m.path.length≤100) && (decide (m.target.length≤100) && (decide (m.uid≤2097151) && (decide (m.gid≤2097151) && decide (m.time≤8589934591))))
theorem plainM_is (m:MemV):plainM m=(plainA m && fitsD m.path && fitsD m.target):=by
 unfold plainM plainA;simp only [Bool.and_assoc]
theorem blk_a (W:World) (o:Obj) (T:TypeId) (cs:Array Value):Blk ((W.alloc o).alloc (.cells cs T)) (W.heap.size+1) T cs:=by
 have:=Blk.new (W.alloc o) T cs
 rwa [World.size_alloc] at this
theorem size_two {m:MemV} (h:goodD m=true):sizeM [m,m]=2 * (putM m).length:=by
 simp [sizeM,h];omega
end Go.Proofs.YtnpkcneojilmkaaDoor.Wr
namespace Go.Proofs.YtnpkcneojilmkaaDoor.Walk
open Go.ChangeShapes Go.WideShapes Go.ChangeAt Go.RowKit Base Byt Txt Bk Rec Mem Wr Block Go.Lib
set_option linter.unusedVariables false
set_option maxRecDepth 100000
set_option maxHeartbeats 4000000 in
theorem writeShort (x:MP) (w:World) (ba:BodyAt w x) (wm:WfM x.m) (rm:RoomM x) (hT:Need w) :
 Calls Tryd.prog 5 #[.agg x.cs] w fun e w' => e=.returned (.bool true)∧Below w.heap.size w w':=by
 obtain ⟨W0,hW0⟩:∃ W0,w.alloc (.cells x.cs 26)=W0:=⟨_,rfl⟩;have hB0:Below w.heap.size w W0:=by rw [← hW0];exact (Below.refl _ _).alloc (Nat.le_refl _) _
 have hM0:Blk W0 w.heap.size 26 x.cs:=by rw [← hW0];exact Blk.new w _ _
 have hL:=light1_any x W0 (ba.below hB0) rm;obtain ⟨lt,hlt⟩:∃ lt,lightD [x.m]=lt:=⟨_,rfl⟩;rw [hlt] at hL;obtain ⟨y0,y1,y2,y3,y4,y5,y6,y7⟩:=box8_of hM0;have HW0:=Lib.hid hW0;have HB0:=Lib.hid hB0;have HM0:=Lib.hid hM0;have HL:=Lib.hid hL;have HBA:=Lib.hid ba;have HRM:=Lib.hid rm;have HN:=Lib.hid hT;have HLT:=Lib.hid hlt;unfold MP.cs memC at HW0 HL ⊢;clear hW0 hB0 hM0 hL ba wm rm hT hlt
 go_enter Tryd.func5,Tryd.ntmps5
 go_upto_region 1 with fail
 rw [HW0.out]
 go_wp2_with fail
 refine HL.out.mono ?_
 rintro e w1 ⟨rfl,hb1⟩;have HB1:=Lib.hid (HB0.out.trans (hb1.mono HB0.out.size));have HM1:=Lib.hid (HM0.out.below hb1 HM0.out.lt);clear hb1 y0 y1 y2 y3 y4 y5 y6 y7
 cases lt with
 | false =>
   go_wp2_with fail
   refine (ans09_any _ (HN.out.below HB1.out)).mono ?_
   rintro e w2 ⟨rfl,hb2⟩;have FIN:=Lib.hid (HB1.out.trans (hb2.mono HB1.out.size));clear hb2
   go_wp2
   go_ret
   exact ⟨rfl,FIN.out⟩
 | true =>
   obtain ⟨_,hlf⟩:=lightD_facts HLT.out;obtain ⟨hp1,hp2,hp3⟩:=hlf x.m (List.mem_singleton.2 rfl);have HF:Hid (x.m.path.length≤1000000000000∧x.m.target.length≤1000000000000):=Lib.hid ⟨by omega,by omega⟩
   clear hlf hp1 hp2 hp3;obtain ⟨y0,y1,y2,y3,y4,y5,y6,y7⟩:=box8_of HM1.out;have hR:=rgood_any x.m x.p x.c w1 (by have:=HF.out.1;omega) (by have:=HF.out.2;omega)
   cases hg:goodD x.m with
   | false =>
     rw [hg] at hR;unfold memC at hR;have HR:=Lib.hid hR;clear hR hg
     go_wp2_with fail
     refine HR.out.mono ?_
     rintro e w3 ⟨rfl,hb3⟩;have HB3:=Lib.hid (HB1.out.trans (hb3.mono HB1.out.size));clear hb3 y0 y1 y2 y3 y4 y5 y6 y7
     go_wp2_with fail
     refine (ans09_any _ (HN.out.below HB3.out)).mono ?_
     rintro e w4 ⟨rfl,hb4⟩;have FIN:=Lib.hid (HB3.out.trans (hb4.mono HB3.out.size));clear hb4
     go_wp2
     go_ret
     exact ⟨rfl,FIN.out⟩
   | true =>
     rw [hg] at hR;unfold memC at hR;have HR:=Lib.hid hR;have HG:=Lib.hid hg;clear hR hg
     go_wp2_with fail
     refine HR.out.mono ?_
     rintro e w3 ⟨rfl,hb3⟩;have HB3:=Lib.hid (HB1.out.trans (hb3.mono HB1.out.size));have HM3:=Lib.hid (HM1.out.below hb3 HM1.out.lt);clear hb3 y0 y1 y2 y3 y4 y5 y6 y7;have hgm:=good_facts HG.out;have hpl:=hgm.pathL;have htl:=hgm.targL;have hble:=hgm.body;have hle:=putM_le hgm;have hge:=(putM_mod hgm).2;obtain ⟨pl,hpl2⟩:∃ pl,x.m.path.length=pl:=⟨_,rfl⟩;obtain ⟨tl,htl2⟩:∃ tl,x.m.target.length=tl:=⟨_,rfl⟩;obtain ⟨bl,hbl⟩:∃ bl,x.m.body.length=bl:=⟨_,rfl⟩;obtain ⟨k,hk⟩:∃ k,(putM x.m).length=k:=⟨_,rfl⟩;have hsz:sizeM [x.m]=k:=by simp [sizeM,HG.out,hk]
     have hsz2:sizeM [x.m,x.m]=2 * k:=by rw [size_two HG.out,hk]
     have hpk:plainM x.m=true → k=512+blocksOf bl:=fun h => by rw [← hk,← hbl];exact putM_plain hgm h
     rw [hpl2] at hpl;rw [htl2] at htl;rw [hk] at hle hge;rw [hbl] at hble hge;have hs0:(str x.m.path).size=pl:=by rw [str_size,hpl2]
     have hs1:(str x.m.target).size=tl:=by rw [str_size,htl2]
     have HPA:Hid (plainA x.m=(decide ((pl:Int)≤100) && (decide ((tl:Int)≤100) && (decide (x.m.uid≤2097151) && (decide (x.m.gid≤2097151) && decide (x.m.time≤8589934591)))))):=Lib.hid (by
      unfold plainA;rw [hpl2,htl2]
      have e1:∀ n:Nat,decide (n≤100)=decide ((n:Int)≤100):=fun n => by
       by_cases h:n≤100
       ·rw [decide_eq_true h,decide_eq_true (by omega)]
       ·rw [decide_eq_false h,decide_eq_false (by omega)]
      rw [e1 pl,e1 tl])
     have HSZ:=Lib.hid (And.intro hsz hsz2);have HPK:=Lib.hid hpk;have HKG:=Lib.hid (And.intro hle hge);have HBL:=Lib.hid hbl;have HPT:=Lib.hid (And.intro hpl2 htl2);obtain ⟨y0,y1,y2,y3,y4,y5,y6,y7⟩:=box8_of HM3.out;rw [hbl] at y7;clear hgm hk hbl hpl2 htl2 hsz hsz2 hpk hle hge
     go_upto_region 3 with fail
     go_cut [3] (fun s wx => s=.bool (plainA x.m)∧wx=w3)
     case first =>
      by_cases a1:(pl:Int)≤100
      ·by_cases a2:(tl:Int)≤100
       ·by_cases a3:x.m.uid≤2097151
        ·by_cases a4:x.m.gid≤2097151
         ·have hd:decide (x.m.time≤8589934591)=plainA x.m:=by
           rw [HPA.out,decide_eq_true a1,decide_eq_true a2,decide_eq_true a3,decide_eq_true a4];rfl
          go_wp2
          go_meet
          exact ⟨by first | rfl | rw [← hd],rfl⟩
         ·have hd:plainA x.m=false:=by rw [HPA.out,decide_eq_false a4];simp
          go_wp2
          go_meet
          exact ⟨by first | rfl | rw [hd],rfl⟩
        ·have hd:plainA x.m=false:=by rw [HPA.out,decide_eq_false a3];simp
         go_wp2
         go_meet
         exact ⟨by first | rfl | rw [hd],rfl⟩
       ·have hd:plainA x.m=false:=by rw [HPA.out,decide_eq_false a2];simp
        go_wp2
        go_meet
        exact ⟨by first | rfl | rw [hd],rfl⟩
      ·have hd:plainA x.m=false:=by rw [HPA.out,decide_eq_false a1];rfl
       go_wp2
       go_meet
       exact ⟨by first | rfl | rw [hd],rfl⟩
     case rest =>
      obtain ⟨rfl,rfl⟩:=hcut;obtain ⟨pa,hpa⟩:∃ pa,plainA x.m=pa:=⟨_,rfl⟩;rw [hpa];have HPB:=Lib.hid hpa;clear hpa HPA
      go_wp2_with fail
      go_loop [3,4] (fun s i => ∃ (j:Nat),j≤pl∧i=.int .i64 (j:Int) ∧ ∃ B:Bool,s=.bool B∧Hid ((pa && fitsD (x.m.path.take j))=B)) (fun _ i => pl - (RowKit.intOf i).toNat)
      case atStart => exact ⟨0,Nat.zero_le _,rfl,pa,rfl,Lib.hid (by simp [fitsD])⟩
      case round =>
       obtain ⟨j,hj,rfl,B,rfl,hBB⟩:=hrel
       by_cases hlt:j < pl
       ·have hlz:(j:Int) < (pl:Int):=by omega
        have hlx:j < x.m.path.length:=by rw [HPT.out.1];exact hlt
        have hls:j < (str x.m.path).size:=by rw [str_size];exact hlx
        have HT:=Lib.hid (fits_take hlx)
        have HGD:Hid (((str x.m.path)[j]).toNat=(x.m.path.getD j 0).toNat):=Lib.hid (by
         have:=wr_at (str x.m.path) j hls;rw [str_data] at this
         rw [this])
        clear hlx
        cases B with
        | false =>
          go_wp2
          go_round
          case rel => exact ⟨j+1,by omega,by go_num,false,rfl,Lib.hid (by
           have h:=hBB.out;rw [HT.out]
           revert h
           cases pa<;>cases fitsD (x.m.path.take j)<;>simp)⟩
          case measure => simp [RowKit.intOf];omega
        | true =>
          have HB2:Hid ((pa && fitsD (x.m.path.take (j+1)))=decide ((x.m.path.getD j 0).toNat≤127)):=Lib.hid (by
           have h:=hBB.out;rw [HT.out]
           revert h
           cases pa<;>cases fitsD (x.m.path.take j)<;>simp)
          by_cases hx:((str x.m.path)[j]).toNat < 128
          ·have hxi:(((str x.m.path)[j]).toNat:Int) < 128:=by omega
           go_wp2
           go_round
           case rel => exact ⟨j+1,by omega,by go_num,true,rfl,Lib.hid (by rw [HB2.out,← HGD.out];simp;omega)⟩
           case measure => simp [RowKit.intOf];omega
          ·have hxi:¬ (((str x.m.path)[j]).toNat:Int) < 128:=by omega
           go_wp2
           go_round
           case rel => exact ⟨j+1,by omega,by go_num,false,rfl,Lib.hid (by rw [HB2.out,← HGD.out];simp;omega)⟩
           case measure => simp [RowKit.intOf];omega
       ·have hlz:¬ (j:Int) < (pl:Int):=by omega
        have HE1:Hid ((pa && fitsD x.m.path)=B):=Lib.hid (by
         have h:=hBB.out
         rwa [List.take_of_length_le (by rw [HPT.out.1];omega)] at h)
        clear hBB
        go_wp2_with fail
        go_loop [3,5] (fun s i => ∃ (j:Nat),j≤tl∧i=.int .i64 (j:Int) ∧ ∃ C:Bool,s=.bool C∧Hid ((B && fitsD (x.m.target.take j))=C)) (fun _ i => tl - (RowKit.intOf i).toNat)
        case atStart => exact ⟨0,Nat.zero_le _,rfl,B,rfl,Lib.hid (by simp [fitsD])⟩
        case round =>
         obtain ⟨j,hj,rfl,C,rfl,hBB⟩:=hrel
         by_cases hlt:j < tl
         ·have hlz:(j:Int) < (tl:Int):=by omega
          have hlx:j < x.m.target.length:=by rw [HPT.out.2];exact hlt
          have hls:j < (str x.m.target).size:=by rw [str_size];exact hlx
          have HT:=Lib.hid (fits_take hlx)
          have HGD:Hid (((str x.m.target)[j]).toNat=(x.m.target.getD j 0).toNat):=Lib.hid (by
           have:=wr_at (str x.m.target) j hls;rw [str_data] at this
           rw [this])
          clear hlx
          cases C with
          | false =>
            go_wp2
            go_round
            case rel => exact ⟨j+1,by omega,by go_num,false,rfl,Lib.hid (by
             have h:=hBB.out;rw [HT.out]
             revert h
             cases B<;>cases fitsD (x.m.target.take j)<;>simp)⟩
            case measure => simp [RowKit.intOf];omega
          | true =>
            have HB2:Hid ((B && fitsD (x.m.target.take (j+1)))=decide ((x.m.target.getD j 0).toNat≤127)):=Lib.hid (by
             have h:=hBB.out;rw [HT.out]
             revert h
             cases B<;>cases fitsD (x.m.target.take j)<;>simp)
            by_cases hx:((str x.m.target)[j]).toNat < 128
            ·have hxi:(((str x.m.target)[j]).toNat:Int) < 128:=by omega
             go_wp2
             go_round
             case rel => exact ⟨j+1,by omega,by go_num,true,rfl,Lib.hid (by rw [HB2.out,← HGD.out];simp;omega)⟩
             case measure => simp [RowKit.intOf];omega
            ·have hxi:¬ (((str x.m.target)[j]).toNat:Int) < 128:=by omega
             go_wp2
             go_round
             case rel => exact ⟨j+1,by omega,by go_num,false,rfl,Lib.hid (by rw [HB2.out,← HGD.out];simp;omega)⟩
             case measure => simp [RowKit.intOf];omega
         ·have hlz:¬ (j:Int) < (tl:Int):=by omega
          have HE2:Hid ((B && fitsD x.m.target)=C):=Lib.hid (by
           have h:=hBB.out
           rwa [List.take_of_length_le (by rw [HPT.out.2];omega)] at h)
          clear hBB;have HPV:Hid (plainM x.m=C):=Lib.hid (by rw [plainM_is,HPB.out,HE1.out,HE2.out])
          obtain ⟨N,hN⟩:∃ N,512+blocksOf bl=N:=⟨_,rfl⟩;have hNI:(512:Int)+((bl:Int)+511) / 512 * 512=(N:Int):=by rw [← hN];unfold blocksOf;omega
          have HNI:=Lib.hid hNI;have HNN:=Lib.hid hN;clear hN hNI
          go_upto_region 12 with fail
          go_cut [6] (fun s wx => s=.int .i64 (N:Int)∧wx=wc)
          case first =>
           go_wp2
           go_meet
           exact ⟨by rw [← HNI.out],rfl⟩
          case rest =>
           obtain ⟨rfl,hwc⟩:=hcut;subst hwc;have HBA3:=Lib.hid (HBA.out.below HB3.out);have HN3:=Lib.hid (HN.out.below HB3.out);have hall:∀ w',Below wc.heap.size wc w' → Box8 w' w.heap.size x:=fun w' h => box8_of (HM3.out.below h HM3.out.lt)
           unfold Box8 at hall;rw [HBL.out] at hall;have HALL:=Lib.hid hall;have HBB:Hid (Below wc.heap.size wc wc.drew):=Lib.hid (((Kept.refl noneB wc).drew).below (Nat.le_refl _) (fun _ h => h.elim))
           have hS1:∀ W b,Blk W b 26 #[.string (str x.m.path),.string (str x.m.target),.int .u8 (x.m.kind.toNat:Int),.int .i64 x.m.mode,.int .i64 x.m.uid,.int .i64 x.m.gid,.int .i64 x.m.time,.slice x.p bl x.c] → BodyAt W x → Need W → Calls Tryd.prog 10 #[.slice (some ⟨b,0,none⟩) 1 1] W fun e w' => e=.returned (.int .i64 (k:Int))∧Below W.heap.size W w':=fun W b h0 h1 h2 => by
            have:=wsize_any (some ⟨b,0,none⟩) 1 1 [x] W (mems_one (by unfold MP.cs memC;rw [HBL.out];exact h0) h1) (by decide) (fun y hy => by rw [List.mem_singleton.1 hy];exact HF.out) h2
            rw [show ([x]:List MP).map MP.m=[x.m] from rfl,HSZ.out.1] at this
            exact this
           obtain ⟨K2,hK2⟩:∃ K2,2 * k=K2:=⟨_,rfl⟩
           have hS2:∀ W b,Blk W b 26 #[.string (str x.m.path),.string (str x.m.target),.int .u8 (x.m.kind.toNat:Int),.int .i64 x.m.mode,.int .i64 x.m.uid,.int .i64 x.m.gid,.int .i64 x.m.time,.slice x.p bl x.c,.string (str x.m.path),.string (str x.m.target),.int .u8 (x.m.kind.toNat:Int),.int .i64 x.m.mode,.int .i64 x.m.uid,.int .i64 x.m.gid,.int .i64 x.m.time,.slice x.p bl x.c] → BodyAt W x → Need W → Calls Tryd.prog 10 #[.slice (some ⟨b,0,none⟩) 2 2] W fun e w' => e=.returned (.int .i64 (K2:Int))∧Below W.heap.size W w':=fun W b h0 h1 h2 => by
            have:=wsize_any (some ⟨b,0,none⟩) 2 2 [x,x] W (mems_two (by unfold cells16;rw [HBL.out];exact h0) h1 h1) (by decide) (fun y hy => by
             rcases List.mem_cons.1 hy with rfl | hy
             ·exact HF.out
             ·rw [List.mem_singleton.1 hy];exact HF.out) h2
            rw [show ([x,x]:List MP).map MP.m=[x.m,x.m] from rfl,HSZ.out.2,hK2] at this
            exact this
           have HS1:=Lib.hid hS1;have HS2:=Lib.hid hS2;have hw2:IntKind.i64.wrap (2 * (k:Int))=(K2:Int):=by rw [IntKind.wrap_i64];have:=HKG.out.1;omega
           have hge:(N:Int)≤(k:Int):=by have:=HKG.out.2;have:=HNN.out;omega
           have HPE:Hid (C=true → k=N):=Lib.hid (fun h => by rw [HPK.out (by rw [HPV.out];exact h),HNN.out])
           clear hall hS1 hS2 hK2;clear y0 y1 y2 y3 y4 y5 y6 y7
           cases C with
           | false =>
             go_wp2_with fail
             refine wp_region_held_drew (S:=(fun w' => w'.cell? ⟨w.heap.size,0,none⟩=some (.string (str x.m.path))∧w'.cell? ⟨w.heap.size,1,none⟩=some (.string (str x.m.target))∧w'.cell? ⟨w.heap.size,2,none⟩=some (.int .u8 (x.m.kind.toNat:Int))∧w'.cell? ⟨w.heap.size,3,none⟩=some (.int .i64 x.m.mode)∧w'.cell? ⟨w.heap.size,4,none⟩=some (.int .i64 x.m.uid)∧w'.cell? ⟨w.heap.size,5,none⟩=some (.int .i64 x.m.gid)∧w'.cell? ⟨w.heap.size,6,none⟩=some (.int .i64 x.m.time)∧w'.cell? ⟨w.heap.size,7,none⟩=some (.slice x.p bl x.c))) (by kernel_rfl) (HALL.out _ HBB.out) (fun hHeld => ?_)
             refine wpAnyH_ready (rs:=[0]) (by kernel_rfl) (by simp) ?_
             refine AllReadyH.cons rfl (fun K hK => ?_) AllReadyH.nil
             go_simp
             go_wp2_with (go_at_call 7
                          refine (ans09_any _ (HN3.out.below HBB.out)).mono ?_
                          rintro e ws ⟨rfl,hba⟩;have HBB:=Lib.hid (HBB.out.trans (hba.mono HBB.out.size))
                          clear hba)
             refine hK.out _ _ ?hS1 (fun hHeld => ?rest1)
             case hS1 => first | exact HALL.out _ HBB.out | exact HALL.out _ (HBB.out.alloc HBB.out.size _) | exact HALL.out _ ((HBB.out.alloc HBB.out.size _).alloc (HBB.out.alloc HBB.out.size _).size _)
             clear hK K;refine wpAnyH_take (i := 1) (oi := { dst := some 83, op := Op.move (Operand.tmp 82), type := 4, pos := "law.go:119", after := #[{ on := 0, ground := Ground.data }, { on := 0, ground := Ground.chain }], guard := none }) (v := ?v2) rfl (by kernel_rfl) (by kernel_rfl) (by kernel_rfl) (fun _ _ _ h => h) (Or.inl ⟨by rfl, ?hy2⟩) (by assumption) ?rest2
             case hy2 =>
              intro w9 hSw
              (try dsimp only at hSw)
              go_simp
              try with_reducible rfl
             (try simp only [Act.put,List.setIfInBounds_toArray,List.set_cons_zero,List.set_cons_succ])
             refine wpAnyH_take (i := 2) (oi := { dst := some 84, op := Op.move (Operand.tmp 3), type := 4, pos := "law.go:119", after := #[{ on := 1, ground := Ground.guard }], guard := some (1, true) }) (v := ?v3) rfl (by kernel_rfl) (by kernel_rfl) (by kernel_rfl) (fun _ _ _ h => h) (Or.inl ⟨by rfl, ?hy3⟩) (by assumption) ?rest3
             case hy3 =>
              intro w9 hSw
              (try dsimp only at hSw)
              go_simp
              try with_reducible rfl
             (try simp only [Act.put,List.setIfInBounds_toArray,List.set_cons_zero,List.set_cons_succ])
             refine wpAnyH_take (i := 3) (oi := { dst := some 85, op := Op.unOp UnOp.not 4 (Operand.tmp 84), type := 4, pos := "law.go:119", after := #[{ on := 2, ground := Ground.data }, { on := 1, ground := Ground.guard }], guard := some (1, true) }) (v := ?v4) rfl (by kernel_rfl) (by kernel_rfl) (by kernel_rfl) (fun _ _ _ h => h) (Or.inl ⟨by rfl, ?hy4⟩) (by assumption) ?rest4
             case hy4 =>
              intro w9 hSw
              (try dsimp only at hSw)
              go_simp
              try with_reducible rfl
             (try simp only [Act.put,List.setIfInBounds_toArray,List.set_cons_zero,List.set_cons_succ])
             refine wpAnyH_take (i := 4) (oi := { dst := some 86, op := Op.move (Operand.tmp 85), type := 4, pos := "law.go:119", after := #[{ on := 3, ground := Ground.data }, { on := 1, ground := Ground.chain }, { on := 1, ground := Ground.guard }], guard := some (1, true) }) (v := ?v5) rfl (by kernel_rfl) (by kernel_rfl) (by kernel_rfl) (fun _ _ _ h => h) (Or.inl ⟨by rfl, ?hy5⟩) (by assumption) ?rest5
             case hy5 =>
              intro w9 hSw
              (try dsimp only at hSw)
              go_simp
              try with_reducible rfl
             (try simp only [Act.put,List.setIfInBounds_toArray,List.set_cons_zero,List.set_cons_succ])
             refine wpAnyH_take (i := 5) (oi := { dst := some 87, op := Op.load 26 (Operand.tmp 1), type := 26, pos := "law.go:119", after := #[{ on := 4, ground := Ground.guard }], guard := some (4, false) }) (v := undef) rfl (by kernel_rfl) (by kernel_rfl) (by kernel_rfl) (fun _ _ _ h => h) (Or.inr ⟨by rfl, rfl⟩) (by assumption) ?_
             (try simp only [Act.put,List.setIfInBounds_toArray,List.set_cons_zero,List.set_cons_succ])
             refine wpAnyH_take (i := 6) (oi := { dst := some 88, op := Op.buildSlice 28 1 #[(0, Operand.tmp 87)], type := 28, pos := "law.go:119", after := #[{ on := 5, ground := Ground.data }, { on := 4, ground := Ground.guard }], guard := some (4, false) }) (v := undef) rfl (by kernel_rfl) (by kernel_rfl) (by kernel_rfl) (fun _ _ _ h => h) (Or.inr ⟨by rfl, rfl⟩) (by assumption) ?_
             (try simp only [Act.put,List.setIfInBounds_toArray,List.set_cons_zero,List.set_cons_succ])
             refine wpAnyH_take (i := 7) (oi := { dst := some 89, op := Op.call { callee := Callee.value (Operand.func 10), args := #[Operand.tmp 88], argTypes := #[28] }, type := 3, pos := "law.go:119", after := #[{ on := 6, ground := Ground.data }, { on := 4, ground := Ground.chain }, { on := 4, ground := Ground.guard }], guard := some (4, false) }) (v := undef) rfl (by kernel_rfl) (by kernel_rfl) (by kernel_rfl) (fun _ _ _ h => h) (Or.inr ⟨by rfl, rfl⟩) (by assumption) ?_
             (try simp only [Act.put,List.setIfInBounds_toArray,List.set_cons_zero,List.set_cons_succ])
             refine wpAnyH_take (i := 8) (oi := { dst := some 90, op := Op.move (Operand.tmp 6), type := 3, pos := "law.go:119", after := #[{ on := 4, ground := Ground.guard }], guard := some (4, false) }) (v := undef) rfl (by kernel_rfl) (by kernel_rfl) (by kernel_rfl) (fun _ _ _ h => h) (Or.inr ⟨by rfl, rfl⟩) (by assumption) ?_
             (try simp only [Act.put,List.setIfInBounds_toArray,List.set_cons_zero,List.set_cons_succ])
             refine wpAnyH_take (i := 9) (oi := { dst := some 91, op := Op.binOp BinOp.eql 3 (Operand.tmp 89) (Operand.tmp 90) 3, type := 4, pos := "law.go:119", after := #[{ on := 7, ground := Ground.data }, { on := 8, ground := Ground.data }, { on := 4, ground := Ground.guard }], guard := some (4, false) }) (v := undef) rfl (by kernel_rfl) (by kernel_rfl) (by kernel_rfl) (fun _ _ _ h => h) (Or.inr ⟨by rfl, rfl⟩) (by assumption) ?_
             (try simp only [Act.put,List.setIfInBounds_toArray,List.set_cons_zero,List.set_cons_succ])
             refine wpAnyH_take (i := 10) (oi := { dst := some 92, op := Op.pick (Operand.tmp 86) (Operand.const (Value.bool true)) (Operand.tmp 91), type := 4, pos := "law.go:119", after := #[{ on := 4, ground := Ground.data }, { on := 9, ground := Ground.data }, { on := 1, ground := Ground.guard }], guard := some (1, true) }) (v := ?v6) rfl (by kernel_rfl) (by kernel_rfl) (by kernel_rfl) (fun _ _ _ h => h) (Or.inl ⟨by rfl, ?hy6⟩) (by assumption) ?rest6
             case hy6 =>
              intro w9 hSw
              (try dsimp only at hSw)
              go_simp
              try with_reducible rfl
             (try simp only [Act.put,List.setIfInBounds_toArray,List.set_cons_zero,List.set_cons_succ])
             refine wpAnyH_take (i := 11) (oi := { dst := some 93, op := Op.pick (Operand.tmp 83) (Operand.tmp 92) (Operand.const (Value.bool false)), type := 4, pos := "law.go:119", after := #[{ on := 1, ground := Ground.data }, { on := 10, ground := Ground.data }], guard := none }) (v := ?v7) rfl (by kernel_rfl) (by kernel_rfl) (by kernel_rfl) (fun _ _ _ h => h) (Or.inl ⟨by rfl, ?hy7⟩) (by assumption) ?rest7
             case hy7 =>
              intro w9 hSw
              (try dsimp only at hSw)
              go_simp
              try with_reducible rfl
             (try simp only [Act.put,List.setIfInBounds_toArray,List.set_cons_zero,List.set_cons_succ])
             refine wpAnyH_take (i := 12) (oi := { dst := some 94, op := Op.move (Operand.tmp 93), type := 4, pos := "law.go:119", after := #[{ on := 11, ground := Ground.data }, { on := 7, ground := Ground.chain }], guard := none }) (v := ?v8) rfl (by kernel_rfl) (by kernel_rfl) (by kernel_rfl) (fun _ _ _ h => h) (Or.inl ⟨by rfl, ?hy8⟩) (by assumption) ?rest8
             case hy8 =>
              intro w9 hSw
              (try dsimp only at hSw)
              go_simp
              try with_reducible rfl
             (try simp only [Act.put,List.setIfInBounds_toArray,List.set_cons_zero,List.set_cons_succ])
             refine wpAnyH_take (i := 13) (oi := { dst := some 95, op := Op.load 26 (Operand.tmp 1), type := 26, pos := "law.go:119", after := #[{ on := 12, ground := Ground.guard }], guard := some (12, true) }) (v := ?v9) rfl (by kernel_rfl) (by kernel_rfl) (by kernel_rfl) (fun _ _ _ h => h) (Or.inl ⟨by rfl, ?hy9⟩) (by assumption) ?rest9
             case hy9 =>
              intro w9 hSw
              (try dsimp only at hSw)
              go_simp
              try with_reducible rfl
             (try simp only [Act.put,List.setIfInBounds_toArray,List.set_cons_zero,List.set_cons_succ])
             refine wpAnyH_take (i := 16) (oi := { dst := some 98, op := Op.move (Operand.tmp 6), type := 3, pos := "law.go:119", after := #[{ on := 12, ground := Ground.guard }], guard := some (12, true) }) (v := ?v10) rfl (by kernel_rfl) (by kernel_rfl) (by kernel_rfl) (fun _ _ _ h => h) (Or.inl ⟨by rfl, ?hy10⟩) (by assumption) ?rest10
             case hy10 =>
              intro w9 hSw
              (try dsimp only at hSw)
              go_simp
              try with_reducible rfl
             (try simp only [Act.put,List.setIfInBounds_toArray,List.set_cons_zero,List.set_cons_succ])
             refine wpAnyH_ready (rs:=[14]) (by kernel_rfl) (by simp) ?_
             refine AllReadyH.cons rfl (fun K hK => ?_) AllReadyH.nil
             go_simp
             refine hK.out _ _ ?hS11 (fun hHeld => ?rest11)
             case hS11 => first | exact HALL.out _ HBB.out | exact HALL.out _ (HBB.out.alloc HBB.out.size _) | exact HALL.out _ ((HBB.out.alloc HBB.out.size _).alloc (HBB.out.alloc HBB.out.size _).size _)
             clear hK K;refine wpAnyH_ready (rs:=[15]) (by kernel_rfl) (by simp) ?_
             refine AllReadyH.cons rfl (fun K hK => ?_) AllReadyH.nil
             go_simp
             go_wp2_with (go_at_call 10
                          (with_reducible refine (HS1.out _ _ (Blk.new _ _ _) (HBA3.out.below (HBB.out.alloc HBB.out.size _)) (HN3.out.below (HBB.out.alloc HBB.out.size _))).mono ?_)
                          rintro e wn ⟨rfl,hbs⟩;have HBB:=Lib.hid ((HBB.out.alloc HBB.out.size _).trans (hbs.mono (HBB.out.alloc HBB.out.size _).size));obtain ⟨ws,rfl⟩:∃ ws,ws=wn:=⟨_,rfl⟩
                          clear hbs)
             refine hK.out _ _ ?hS12 (fun hHeld => ?rest12)
             case hS12 => first | exact HALL.out _ HBB.out | exact HALL.out _ (HBB.out.alloc HBB.out.size _) | exact HALL.out _ ((HBB.out.alloc HBB.out.size _).alloc (HBB.out.alloc HBB.out.size _).size _)
             clear hK K;refine wpAnyH_take (i := 17) (oi := { dst := some 99, op := Op.binOp BinOp.geq 3 (Operand.tmp 97) (Operand.tmp 98) 3, type := 4, pos := "law.go:119", after := #[{ on := 15, ground := Ground.data }, { on := 16, ground := Ground.data }, { on := 12, ground := Ground.guard }], guard := some (12, true) }) (v := ?v13) rfl (by kernel_rfl) (by kernel_rfl) (by kernel_rfl) (fun _ _ _ h => h) (Or.inl ⟨by rfl, ?hy13⟩) (by assumption) ?rest13
             case hy13 =>
              intro w9 hSw
              (try dsimp only at hSw)
              go_simp
              try with_reducible rfl
             (try simp only [Act.put,List.setIfInBounds_toArray,List.set_cons_zero,List.set_cons_succ])
             refine wpAnyH_take (i := 18) (oi := { dst := some 100, op := Op.pick (Operand.tmp 94) (Operand.tmp 99) (Operand.const (Value.bool false)), type := 4, pos := "law.go:119", after := #[{ on := 12, ground := Ground.data }, { on := 17, ground := Ground.data }], guard := none }) (v := ?v14) rfl (by kernel_rfl) (by kernel_rfl) (by kernel_rfl) (fun _ _ _ h => h) (Or.inl ⟨by rfl, ?hy14⟩) (by assumption) ?rest14
             case hy14 =>
              intro w9 hSw
              (try dsimp only at hSw)
              go_simp
              try with_reducible rfl
             (try simp only [Act.put,List.setIfInBounds_toArray,List.set_cons_zero,List.set_cons_succ])
             refine wpAnyH_take (i := 19) (oi := { dst := some 101, op := Op.move (Operand.tmp 100), type := 4, pos := "law.go:119", after := #[{ on := 18, ground := Ground.data }, { on := 15, ground := Ground.chain }], guard := none }) (v := ?v15) rfl (by kernel_rfl) (by kernel_rfl) (by kernel_rfl) (fun _ _ _ h => h) (Or.inl ⟨by rfl, ?hy15⟩) (by assumption) ?rest15
             case hy15 =>
              intro w9 hSw
              (try dsimp only at hSw)
              go_simp
              try with_reducible rfl
             (try simp only [Act.put,List.setIfInBounds_toArray,List.set_cons_zero,List.set_cons_succ])
             refine wpAnyH_take (i := 20) (oi := { dst := some 102, op := Op.load 26 (Operand.tmp 1), type := 26, pos := "law.go:119", after := #[{ on := 19, ground := Ground.guard }], guard := some (19, true) }) (v := ?v16) rfl (by kernel_rfl) (by kernel_rfl) (by kernel_rfl) (fun _ _ _ h => h) (Or.inl ⟨by rfl, ?hy16⟩) (by assumption) ?rest16
             case hy16 =>
              intro w9 hSw
              (try dsimp only at hSw)
              go_simp
              try with_reducible rfl
             (try simp only [Act.put,List.setIfInBounds_toArray,List.set_cons_zero,List.set_cons_succ])
             refine wpAnyH_take (i := 21) (oi := { dst := some 103, op := Op.load 26 (Operand.tmp 1), type := 26, pos := "law.go:119", after := #[{ on := 19, ground := Ground.guard }], guard := some (19, true) }) (v := ?v17) rfl (by kernel_rfl) (by kernel_rfl) (by kernel_rfl) (fun _ _ _ h => h) (Or.inl ⟨by rfl, ?hy17⟩) (by assumption) ?rest17
             case hy17 =>
              intro w9 hSw
              (try dsimp only at hSw)
              go_simp
              try with_reducible rfl
             (try simp only [Act.put,List.setIfInBounds_toArray,List.set_cons_zero,List.set_cons_succ])
             refine wpAnyH_take (i := 24) (oi := { dst := some 106, op := Op.load 26 (Operand.tmp 1), type := 26, pos := "law.go:119", after := #[{ on := 19, ground := Ground.guard }], guard := some (19, true) }) (v := ?v18) rfl (by kernel_rfl) (by kernel_rfl) (by kernel_rfl) (fun _ _ _ h => h) (Or.inl ⟨by rfl, ?hy18⟩) (by assumption) ?rest18
             case hy18 =>
              intro w9 hSw
              (try dsimp only at hSw)
              go_simp
              try with_reducible rfl
             (try simp only [Act.put,List.setIfInBounds_toArray,List.set_cons_zero,List.set_cons_succ])
             refine wpAnyH_ready (rs:=[22,25]) (by kernel_rfl) (by simp) ?_
             refine AllReadyH.cons rfl (fun K hK => ?_) (AllReadyH.cons rfl (fun K hK => ?_) AllReadyH.nil)
             ·go_simp
              refine hK.out _ _ ?hS19 (fun hHeld => ?rest19)
              case hS19 => first | exact HALL.out _ HBB.out | exact HALL.out _ (HBB.out.alloc HBB.out.size _) | exact HALL.out _ ((HBB.out.alloc HBB.out.size _).alloc (HBB.out.alloc HBB.out.size _).size _)
              clear hK K;refine wpAnyH_ready (rs:=[23,25]) (by kernel_rfl) (by simp) ?_
              refine AllReadyH.cons rfl (fun K hK => ?_) (AllReadyH.cons rfl (fun K hK => ?_) AllReadyH.nil)
              ·skip
               go_simp
               go_wp2_with (go_at_call 10
                            (with_reducible refine (HS2.out _ _ (Blk.new _ _ _) (HBA3.out.below (HBB.out.alloc HBB.out.size _)) (HN3.out.below (HBB.out.alloc HBB.out.size _))).mono ?_)
                            rintro e wn ⟨rfl,hbs⟩;have HBB:=Lib.hid ((HBB.out.alloc HBB.out.size _).trans (hbs.mono (HBB.out.alloc HBB.out.size _).size));obtain ⟨ws,rfl⟩:∃ ws,ws=wn:=⟨_,rfl⟩
                            clear hbs)
               refine hK.out _ _ ?hS20 (fun hHeld => ?rest20)
               case hS20 => first | exact HALL.out _ HBB.out | exact HALL.out _ (HBB.out.alloc HBB.out.size _) | exact HALL.out _ ((HBB.out.alloc HBB.out.size _).alloc (HBB.out.alloc HBB.out.size _).size _)
               clear hK K;refine wpAnyH_ready (rs:=[25]) (by kernel_rfl) (by simp) ?_
               refine AllReadyH.cons rfl (fun K hK => ?_) AllReadyH.nil
               go_simp
               refine hK.out _ _ ?hS21 (fun hHeld => ?rest21)
               case hS21 => first | exact HALL.out _ HBB.out | exact HALL.out _ (HBB.out.alloc HBB.out.size _) | exact HALL.out _ ((HBB.out.alloc HBB.out.size _).alloc (HBB.out.alloc HBB.out.size _).size _)
               clear hK K;refine wpAnyH_ready (rs:=[26]) (by kernel_rfl) (by simp) ?_
               refine AllReadyH.cons rfl (fun K hK => ?_) AllReadyH.nil
               go_simp
               go_wp2_with (go_at_call 10
                            (with_reducible refine (HS1.out _ _ (Blk.new _ _ _) (HBA3.out.below (HBB.out.alloc HBB.out.size _)) (HN3.out.below (HBB.out.alloc HBB.out.size _))).mono ?_)
                            rintro e wn ⟨rfl,hbs⟩;have HBB:=Lib.hid ((HBB.out.alloc HBB.out.size _).trans (hbs.mono (HBB.out.alloc HBB.out.size _).size));obtain ⟨ws,rfl⟩:∃ ws,ws=wn:=⟨_,rfl⟩
                            clear hbs)
               refine hK.out _ _ ?hS22 (fun hHeld => ?rest22)
               case hS22 => first | exact HALL.out _ HBB.out | exact HALL.out _ (HBB.out.alloc HBB.out.size _) | exact HALL.out _ ((HBB.out.alloc HBB.out.size _).alloc (HBB.out.alloc HBB.out.size _).size _)
               clear hK K;refine wpAnyH_take (i := 27) (oi := { dst := some 109, op := Op.binOp BinOp.mul 3 (Operand.const (Value.int IntKind.i64 2)) (Operand.tmp 108) 3, type := 3, pos := "law.go:119", after := #[{ on := 26, ground := Ground.data }, { on := 19, ground := Ground.guard }], guard := some (19, true) }) (v := ?v23) rfl (by kernel_rfl) (by kernel_rfl) (by kernel_rfl) (fun _ _ _ h => h) (Or.inl ⟨by rfl, ?hy23⟩) (by assumption) ?rest23
               case hy23 =>
                intro w9 hSw
                (try dsimp only at hSw)
                go_simp
                try with_reducible rfl
               (try simp only [Act.put,List.setIfInBounds_toArray,List.set_cons_zero,List.set_cons_succ])
               refine wpAnyH_take (i := 28) (oi := { dst := some 110, op := Op.binOp BinOp.eql 3 (Operand.tmp 105) (Operand.tmp 109) 3, type := 4, pos := "law.go:119", after := #[{ on := 23, ground := Ground.data }, { on := 27, ground := Ground.data }, { on := 19, ground := Ground.guard }], guard := some (19, true) }) (v := ?v24) rfl (by kernel_rfl) (by kernel_rfl) (by kernel_rfl) (fun _ _ _ h => h) (Or.inl ⟨by rfl, ?hy24⟩) (by assumption) ?rest24
               case hy24 =>
                intro w9 hSw
                (try dsimp only at hSw)
                go_simp
                try with_reducible rfl
               (try simp only [Act.put,List.setIfInBounds_toArray,List.set_cons_zero,List.set_cons_succ])
               refine wpAnyH_take (i := 29) (oi := { dst := some 111, op := Op.pick (Operand.tmp 101) (Operand.tmp 110) (Operand.const (Value.bool false)), type := 4, pos := "law.go:119", after := #[{ on := 19, ground := Ground.data }, { on := 28, ground := Ground.data }], guard := none }) (v := ?v25) rfl (by kernel_rfl) (by kernel_rfl) (by kernel_rfl) (fun _ _ _ h => h) (Or.inl ⟨by rfl, ?hy25⟩) (by assumption) ?rest25
               case hy25 =>
                intro w9 hSw
                (try dsimp only at hSw)
                go_simp
                try with_reducible rfl
               (try simp only [Act.put,List.setIfInBounds_toArray,List.set_cons_zero,List.set_cons_succ])
               refine wpAnyH_ready (rs:=[30]) (by kernel_rfl) (by simp) ?_
               refine AllReadyH.cons rfl (fun K hK => ?_) AllReadyH.nil
               go_simp
               refine hK.out _ _ ?hS26 (fun hHeld => ?rest26)
               case hS26 => first | exact HALL.out _ HBB.out | exact HALL.out _ (HBB.out.alloc HBB.out.size _) | exact HALL.out _ ((HBB.out.alloc HBB.out.size _).alloc (HBB.out.alloc HBB.out.size _).size _)
               clear hK K;refine wpAnyH_done (by kernel_rfl) ?_ _
               have FIN:=Lib.hid (HB3.out.trans (HBB.out.mono HB3.out.size))
               go_wp2
               go_ret
               exact ⟨rfl,FIN.out⟩
              ·go_simp
               refine hK.out _ _ ?hS27 (fun hHeld => ?rest27)
               case hS27 => first | exact HALL.out _ HBB.out | exact HALL.out _ (HBB.out.alloc HBB.out.size _) | exact HALL.out _ ((HBB.out.alloc HBB.out.size _).alloc (HBB.out.alloc HBB.out.size _).size _)
               clear hK K;refine wpAnyH_ready (rs:=[23]) (by kernel_rfl) (by simp) ?_
               refine AllReadyH.cons rfl (fun K hK => ?_) AllReadyH.nil
               go_simp
               go_wp2_with (go_at_call 10
                            (with_reducible refine (HS2.out _ _ ((Blk.new _ _ _).alloc _) (HBA3.out.below ((HBB.out.alloc HBB.out.size _).alloc (HBB.out.alloc HBB.out.size _).size _)) (HN3.out.below ((HBB.out.alloc HBB.out.size _).alloc (HBB.out.alloc HBB.out.size _).size _))).mono ?_)
                            rintro e wn ⟨rfl,hbs⟩;have hblk:=(Blk.new (ws.alloc (.cells #[.string (str x.m.path),.string (str x.m.target),.int .u8 (x.m.kind.toNat:Int),.int .i64 x.m.mode,.int .i64 x.m.uid,.int .i64 x.m.gid,.int .i64 x.m.time,.slice x.p bl x.c,.string (str x.m.path),.string (str x.m.target),.int .u8 (x.m.kind.toNat:Int),.int .i64 x.m.mode,.int .i64 x.m.uid,.int .i64 x.m.gid,.int .i64 x.m.time,.slice x.p bl x.c] 26)) 26 #[.string (str x.m.path),.string (str x.m.target),.int .u8 (x.m.kind.toNat:Int),.int .i64 x.m.mode,.int .i64 x.m.uid,.int .i64 x.m.gid,.int .i64 x.m.time,.slice x.p bl x.c]).below hbs (Blk.new _ _ _).lt
                            rw [World.size_alloc] at hblk;have HBLK:=Lib.hid hblk;clear hblk;have HBB:=Lib.hid (((HBB.out.alloc HBB.out.size _).alloc (HBB.out.alloc HBB.out.size _).size _).trans (hbs.mono ((HBB.out.alloc HBB.out.size _).alloc (HBB.out.alloc HBB.out.size _).size _).size));obtain ⟨ws,rfl⟩:∃ ws,ws=wn:=⟨_,rfl⟩
                            clear hbs)
               refine hK.out _ _ ?hS28 (fun hHeld => ?rest28)
               case hS28 => first | exact HALL.out _ HBB.out | exact HALL.out _ (HBB.out.alloc HBB.out.size _) | exact HALL.out _ ((HBB.out.alloc HBB.out.size _).alloc (HBB.out.alloc HBB.out.size _).size _)
               clear hK K;refine wpAnyH_ready (rs:=[26]) (by kernel_rfl) (by simp) ?_
               refine AllReadyH.cons rfl (fun K hK => ?_) AllReadyH.nil
               go_simp
               go_wp2_with (go_at_call 10
                            (with_reducible refine (HS1.out _ _ HBLK.out (HBA3.out.below HBB.out) (HN3.out.below HBB.out)).mono ?_)
                            rintro e wn ⟨rfl,hbs⟩;have HBB:=Lib.hid (HBB.out.trans (hbs.mono HBB.out.size));obtain ⟨ws,rfl⟩:∃ ws,ws=wn:=⟨_,rfl⟩
                            clear hbs)
               refine hK.out _ _ ?hS29 (fun hHeld => ?rest29)
               case hS29 => first | exact HALL.out _ HBB.out | exact HALL.out _ (HBB.out.alloc HBB.out.size _) | exact HALL.out _ ((HBB.out.alloc HBB.out.size _).alloc (HBB.out.alloc HBB.out.size _).size _)
               clear hK K;refine wpAnyH_take (i := 27) (oi := { dst := some 109, op := Op.binOp BinOp.mul 3 (Operand.const (Value.int IntKind.i64 2)) (Operand.tmp 108) 3, type := 3, pos := "law.go:119", after := #[{ on := 26, ground := Ground.data }, { on := 19, ground := Ground.guard }], guard := some (19, true) }) (v := ?v30) rfl (by kernel_rfl) (by kernel_rfl) (by kernel_rfl) (fun _ _ _ h => h) (Or.inl ⟨by rfl, ?hy30⟩) (by assumption) ?rest30
               case hy30 =>
                intro w9 hSw
                (try dsimp only at hSw)
                go_simp
                try with_reducible rfl
               (try simp only [Act.put,List.setIfInBounds_toArray,List.set_cons_zero,List.set_cons_succ])
               refine wpAnyH_take (i := 28) (oi := { dst := some 110, op := Op.binOp BinOp.eql 3 (Operand.tmp 105) (Operand.tmp 109) 3, type := 4, pos := "law.go:119", after := #[{ on := 23, ground := Ground.data }, { on := 27, ground := Ground.data }, { on := 19, ground := Ground.guard }], guard := some (19, true) }) (v := ?v31) rfl (by kernel_rfl) (by kernel_rfl) (by kernel_rfl) (fun _ _ _ h => h) (Or.inl ⟨by rfl, ?hy31⟩) (by assumption) ?rest31
               case hy31 =>
                intro w9 hSw
                (try dsimp only at hSw)
                go_simp
                try with_reducible rfl
               (try simp only [Act.put,List.setIfInBounds_toArray,List.set_cons_zero,List.set_cons_succ])
               refine wpAnyH_take (i := 29) (oi := { dst := some 111, op := Op.pick (Operand.tmp 101) (Operand.tmp 110) (Operand.const (Value.bool false)), type := 4, pos := "law.go:119", after := #[{ on := 19, ground := Ground.data }, { on := 28, ground := Ground.data }], guard := none }) (v := ?v32) rfl (by kernel_rfl) (by kernel_rfl) (by kernel_rfl) (fun _ _ _ h => h) (Or.inl ⟨by rfl, ?hy32⟩) (by assumption) ?rest32
               case hy32 =>
                intro w9 hSw
                (try dsimp only at hSw)
                go_simp
                try with_reducible rfl
               (try simp only [Act.put,List.setIfInBounds_toArray,List.set_cons_zero,List.set_cons_succ])
               refine wpAnyH_ready (rs:=[30]) (by kernel_rfl) (by simp) ?_
               refine AllReadyH.cons rfl (fun K hK => ?_) AllReadyH.nil
               go_simp
               refine hK.out _ _ ?hS33 (fun hHeld => ?rest33)
               case hS33 => first | exact HALL.out _ HBB.out | exact HALL.out _ (HBB.out.alloc HBB.out.size _) | exact HALL.out _ ((HBB.out.alloc HBB.out.size _).alloc (HBB.out.alloc HBB.out.size _).size _)
               clear hK K;refine wpAnyH_done (by kernel_rfl) ?_ _
               have FIN:=Lib.hid (HB3.out.trans (HBB.out.mono HB3.out.size))
               go_wp2
               go_ret
               exact ⟨rfl,FIN.out⟩
             ·go_simp
              refine hK.out _ _ ?hS34 (fun hHeld => ?rest34)
              case hS34 => first | exact HALL.out _ HBB.out | exact HALL.out _ (HBB.out.alloc HBB.out.size _) | exact HALL.out _ ((HBB.out.alloc HBB.out.size _).alloc (HBB.out.alloc HBB.out.size _).size _)
              clear hK K;refine wpAnyH_ready (rs:=[22]) (by kernel_rfl) (by simp) ?_
              refine AllReadyH.cons rfl (fun K hK => ?_) AllReadyH.nil
              go_simp
              refine hK.out _ _ ?hS35 (fun hHeld => ?rest35)
              case hS35 => first | exact HALL.out _ HBB.out | exact HALL.out _ (HBB.out.alloc HBB.out.size _) | exact HALL.out _ ((HBB.out.alloc HBB.out.size _).alloc (HBB.out.alloc HBB.out.size _).size _)
              clear hK K;refine wpAnyH_ready (rs:=[23]) (by kernel_rfl) (by simp) ?_
              refine AllReadyH.cons rfl (fun K hK => ?_) AllReadyH.nil
              go_simp
              go_wp2_with (go_at_call 10
                           (with_reducible refine (HS2.out _ _ (blk_a _ _ _ _) (HBA3.out.below ((HBB.out.alloc HBB.out.size _).alloc (HBB.out.alloc HBB.out.size _).size _)) (HN3.out.below ((HBB.out.alloc HBB.out.size _).alloc (HBB.out.alloc HBB.out.size _).size _))).mono ?_)
                           rintro e wn ⟨rfl,hbs⟩;have hblk:=((Blk.new ws 26 #[.string (str x.m.path),.string (str x.m.target),.int .u8 (x.m.kind.toNat:Int),.int .i64 x.m.mode,.int .i64 x.m.uid,.int .i64 x.m.gid,.int .i64 x.m.time,.slice x.p bl x.c]).alloc _).below hbs (by simp only [World.size_alloc];omega)
                           have HBLK:=Lib.hid hblk;clear hblk;have HBB:=Lib.hid (((HBB.out.alloc HBB.out.size _).alloc (HBB.out.alloc HBB.out.size _).size _).trans (hbs.mono ((HBB.out.alloc HBB.out.size _).alloc (HBB.out.alloc HBB.out.size _).size _).size));obtain ⟨ws,rfl⟩:∃ ws,ws=wn:=⟨_,rfl⟩
                           clear hbs)
              refine hK.out _ _ ?hS36 (fun hHeld => ?rest36)
              case hS36 => first | exact HALL.out _ HBB.out | exact HALL.out _ (HBB.out.alloc HBB.out.size _) | exact HALL.out _ ((HBB.out.alloc HBB.out.size _).alloc (HBB.out.alloc HBB.out.size _).size _)
              clear hK K;refine wpAnyH_ready (rs:=[26]) (by kernel_rfl) (by simp) ?_
              refine AllReadyH.cons rfl (fun K hK => ?_) AllReadyH.nil
              go_simp
              go_wp2_with (go_at_call 10
                           (with_reducible refine (HS1.out _ _ HBLK.out (HBA3.out.below HBB.out) (HN3.out.below HBB.out)).mono ?_)
                           rintro e wn ⟨rfl,hbs⟩;have HBB:=Lib.hid (HBB.out.trans (hbs.mono HBB.out.size));obtain ⟨ws,rfl⟩:∃ ws,ws=wn:=⟨_,rfl⟩
                           clear hbs)
              refine hK.out _ _ ?hS37 (fun hHeld => ?rest37)
              case hS37 => first | exact HALL.out _ HBB.out | exact HALL.out _ (HBB.out.alloc HBB.out.size _) | exact HALL.out _ ((HBB.out.alloc HBB.out.size _).alloc (HBB.out.alloc HBB.out.size _).size _)
              clear hK K;refine wpAnyH_take (i := 27) (oi := { dst := some 109, op := Op.binOp BinOp.mul 3 (Operand.const (Value.int IntKind.i64 2)) (Operand.tmp 108) 3, type := 3, pos := "law.go:119", after := #[{ on := 26, ground := Ground.data }, { on := 19, ground := Ground.guard }], guard := some (19, true) }) (v := ?v38) rfl (by kernel_rfl) (by kernel_rfl) (by kernel_rfl) (fun _ _ _ h => h) (Or.inl ⟨by rfl, ?hy38⟩) (by assumption) ?rest38
              case hy38 =>
               intro w9 hSw
               (try dsimp only at hSw)
               go_simp
               try with_reducible rfl
              (try simp only [Act.put,List.setIfInBounds_toArray,List.set_cons_zero,List.set_cons_succ])
              refine wpAnyH_take (i := 28) (oi := { dst := some 110, op := Op.binOp BinOp.eql 3 (Operand.tmp 105) (Operand.tmp 109) 3, type := 4, pos := "law.go:119", after := #[{ on := 23, ground := Ground.data }, { on := 27, ground := Ground.data }, { on := 19, ground := Ground.guard }], guard := some (19, true) }) (v := ?v39) rfl (by kernel_rfl) (by kernel_rfl) (by kernel_rfl) (fun _ _ _ h => h) (Or.inl ⟨by rfl, ?hy39⟩) (by assumption) ?rest39
              case hy39 =>
               intro w9 hSw
               (try dsimp only at hSw)
               go_simp
               try with_reducible rfl
              (try simp only [Act.put,List.setIfInBounds_toArray,List.set_cons_zero,List.set_cons_succ])
              refine wpAnyH_take (i := 29) (oi := { dst := some 111, op := Op.pick (Operand.tmp 101) (Operand.tmp 110) (Operand.const (Value.bool false)), type := 4, pos := "law.go:119", after := #[{ on := 19, ground := Ground.data }, { on := 28, ground := Ground.data }], guard := none }) (v := ?v40) rfl (by kernel_rfl) (by kernel_rfl) (by kernel_rfl) (fun _ _ _ h => h) (Or.inl ⟨by rfl, ?hy40⟩) (by assumption) ?rest40
              case hy40 =>
               intro w9 hSw
               (try dsimp only at hSw)
               go_simp
               try with_reducible rfl
              (try simp only [Act.put,List.setIfInBounds_toArray,List.set_cons_zero,List.set_cons_succ])
              refine wpAnyH_ready (rs:=[30]) (by kernel_rfl) (by simp) ?_
              refine AllReadyH.cons rfl (fun K hK => ?_) AllReadyH.nil
              go_simp
              refine hK.out _ _ ?hS41 (fun hHeld => ?rest41)
              case hS41 => first | exact HALL.out _ HBB.out | exact HALL.out _ (HBB.out.alloc HBB.out.size _) | exact HALL.out _ ((HBB.out.alloc HBB.out.size _).alloc (HBB.out.alloc HBB.out.size _).size _)
              clear hK K;refine wpAnyH_done (by kernel_rfl) ?_ _
              have FIN:=Lib.hid (HB3.out.trans (HBB.out.mono HB3.out.size))
              go_wp2
              go_ret
              exact ⟨rfl,FIN.out⟩
           | true =>
             have hkn:((k:Int) == (N:Int))=true:=by rw [HPE.out rfl];simp
             go_wp2_with fail
             first
             | (go_region_held_law (fun w' => w'.cell? ⟨w.heap.size,0,none⟩=some (.string (str x.m.path))∧w'.cell? ⟨w.heap.size,1,none⟩=some (.string (str x.m.target))∧w'.cell? ⟨w.heap.size,2,none⟩=some (.int .u8 (x.m.kind.toNat:Int))∧w'.cell? ⟨w.heap.size,3,none⟩=some (.int .i64 x.m.mode)∧w'.cell? ⟨w.heap.size,4,none⟩=some (.int .i64 x.m.uid)∧w'.cell? ⟨w.heap.size,5,none⟩=some (.int .i64 x.m.gid)∧w'.cell? ⟨w.heap.size,6,none⟩=some (.int .i64 x.m.time)∧w'.cell? ⟨w.heap.size,7,none⟩=some (.slice x.p bl x.c)) (first | exact HALL.out _ HBB.out | exact HALL.out _ (HBB.out.alloc HBB.out.size _) | exact HALL.out _ ((HBB.out.alloc HBB.out.size _).alloc (HBB.out.alloc HBB.out.size _).size _)) (first
              | (go_at_call 7
                 refine (ans09_any _ (HN3.out.below HBB.out)).mono ?_
                 rintro e ws ⟨rfl,hba⟩;have HBB:=Lib.hid (HBB.out.trans (hba.mono HBB.out.size))
                 clear hba)
              | (go_at_call 10
                 (with_reducible refine (HS1.out _ _ (Blk.new _ _ _) (HBA3.out.below (HBB.out.alloc HBB.out.size _)) (HN3.out.below (HBB.out.alloc HBB.out.size _))).mono ?_)
                 rintro e wn ⟨rfl,hbs⟩;have HBB:=Lib.hid ((HBB.out.alloc HBB.out.size _).trans (hbs.mono (HBB.out.alloc HBB.out.size _).size));obtain ⟨ws,rfl⟩:∃ ws,ws=wn:=⟨_,rfl⟩
                 clear hbs)
              | (go_at_call 10
                 (with_reducible refine (HS2.out _ _ ((Blk.new _ _ _).alloc _) (HBA3.out.below ((HBB.out.alloc HBB.out.size _).alloc (HBB.out.alloc HBB.out.size _).size _)) (HN3.out.below ((HBB.out.alloc HBB.out.size _).alloc (HBB.out.alloc HBB.out.size _).size _))).mono ?_)
                 rintro e wn ⟨rfl,hbs⟩;have hblk:=(Blk.new (ws.alloc (.cells #[.string (str x.m.path),.string (str x.m.target),.int .u8 (x.m.kind.toNat:Int),.int .i64 x.m.mode,.int .i64 x.m.uid,.int .i64 x.m.gid,.int .i64 x.m.time,.slice x.p bl x.c,.string (str x.m.path),.string (str x.m.target),.int .u8 (x.m.kind.toNat:Int),.int .i64 x.m.mode,.int .i64 x.m.uid,.int .i64 x.m.gid,.int .i64 x.m.time,.slice x.p bl x.c] 26)) 26 #[.string (str x.m.path),.string (str x.m.target),.int .u8 (x.m.kind.toNat:Int),.int .i64 x.m.mode,.int .i64 x.m.uid,.int .i64 x.m.gid,.int .i64 x.m.time,.slice x.p bl x.c]).below hbs (Blk.new _ _ _).lt
                 rw [World.size_alloc] at hblk;have HBLK:=Lib.hid hblk;clear hblk;have HBB:=Lib.hid (((HBB.out.alloc HBB.out.size _).alloc (HBB.out.alloc HBB.out.size _).size _).trans (hbs.mono ((HBB.out.alloc HBB.out.size _).alloc (HBB.out.alloc HBB.out.size _).size _).size));obtain ⟨ws,rfl⟩:∃ ws,ws=wn:=⟨_,rfl⟩
                 clear hbs)
              | (go_at_call 10
                 (with_reducible refine (HS2.out _ _ (blk_a _ _ _ _) (HBA3.out.below ((HBB.out.alloc HBB.out.size _).alloc (HBB.out.alloc HBB.out.size _).size _)) (HN3.out.below ((HBB.out.alloc HBB.out.size _).alloc (HBB.out.alloc HBB.out.size _).size _))).mono ?_)
                 rintro e wn ⟨rfl,hbs⟩;have hblk:=((Blk.new ws 26 #[.string (str x.m.path),.string (str x.m.target),.int .u8 (x.m.kind.toNat:Int),.int .i64 x.m.mode,.int .i64 x.m.uid,.int .i64 x.m.gid,.int .i64 x.m.time,.slice x.p bl x.c]).alloc _).below hbs (by simp only [World.size_alloc];omega)
                 have HBLK:=Lib.hid hblk;clear hblk;have HBB:=Lib.hid (((HBB.out.alloc HBB.out.size _).alloc (HBB.out.alloc HBB.out.size _).size _).trans (hbs.mono ((HBB.out.alloc HBB.out.size _).alloc (HBB.out.alloc HBB.out.size _).size _).size));obtain ⟨ws,rfl⟩:∃ ws,ws=wn:=⟨_,rfl⟩
                 clear hbs)
              | (go_at_call 10
                 (with_reducible refine (HS2.out _ _ (Blk.new _ _ _) (HBA3.out.below (HBB.out.alloc HBB.out.size _)) (HN3.out.below (HBB.out.alloc HBB.out.size _))).mono ?_)
                 rintro e wn ⟨rfl,hbs⟩;have HBB:=Lib.hid ((HBB.out.alloc HBB.out.size _).trans (hbs.mono (HBB.out.alloc HBB.out.size _).size));obtain ⟨ws,rfl⟩:∃ ws,ws=wn:=⟨_,rfl⟩
                 clear hbs)
              | (go_at_call 10
                 (with_reducible refine (HS1.out _ _ HBLK.out (HBA3.out.below HBB.out) (HN3.out.below HBB.out)).mono ?_)
                 rintro e wn ⟨rfl,hbs⟩;have HBB:=Lib.hid (HBB.out.trans (hbs.mono HBB.out.size));obtain ⟨ws,rfl⟩:∃ ws,ws=wn:=⟨_,rfl⟩
                 clear hbs)))
             | done
             all_goals
              have FIN:=Lib.hid (HB3.out.trans (HBB.out.mono HB3.out.size))
              go_wp2
              go_ret
              exact ⟨rfl,FIN.out⟩
end Go.Proofs.YtnpkcneojilmkaaDoor.Walk
end
