/- Texts of this seat, merged: what the proof reaches. -/
import Derived.Test.YtnpkcneojilmkaaDoorRows
import Derived.Shelf.Bytes.SlTrim
import Derived.Test.YtnpkcneojilmkaaDoorWritePutsX13
import Derived.Test.YtnpkcneojilmkaaDoorWritePutsX16
import Derived.Lib.SlBytesConst
import Derived.Test.YtnpkcneojilmkaaDoorWritePutsX19
import Derived.Carry
import Derived.Test.YtnpkcneojilmkaaDoorWritePutsX8
import Derived.Test.YtnpkcneojilmkaaDoorWritePutsX17
import Derived.Laws.ResultCell
import Derived.Deep.RegionHeldLaw
import Derived.Test.YtnpkcneojilmkaaDoorWritePutsX23
import Derived.Test.YtnpkcneojilmkaaDoorWritePutsX5
import Derived.Test.YtnpkcneojilmkaaDoorWritePutsX25
import Derived.Test.YtnpkcneojilmkaaDoorWritePutsX20
import Derived.Test.YtnpkcneojilmkaaDoorWritePutsX27
import Derived.Test.YtnpkcneojilmkaaDoorWritePutsX14
import Derived.Test.YtnpkcneojilmkaaDoorWritePutsX26
import Derived.Test.YtnpkcneojilmkaaDoorWritePutsX28
import Derived.Test.YtnpkcneojilmkaaDoorWritePutsX10
import Derived.Shelf.Abstract
import Derived.StillTailTactics
import Derived.Deep.DeepCutAuto
import Derived.Test.YtnpkcneojilmkaaDoorWritePutsX24
section
namespace Go.Proofs.YtnpkcneojilmkaaDoor.Field
open Go.ChangeShapes Go.WideShapes Go.ChangeAt Go.RowKit Base Num Fp Byt
set_option linter.unusedVariables false
open Go.Lib (bytesOf)
theorem put_bat {w w':World} {r:Option (List Int)} {n wide:Int} (hr:r=putF n wide) {l:List Int} {v:Value} (h:r=some l) (hown:w'.ownsRow w.heap.size 5 1 v l.length (l.map (Value.int .u8))) :
 ∃ p c,v=.slice p l.length c∧l.length≤c∧c≤maxLen∧BAt w' p l.length (bytesOf l)∧(bytesOf l).length=l.length:=
 bat_of_own hown (putF_bd (hr ▸ h))
end Go.Proofs.YtnpkcneojilmkaaDoor.Field
end
section
namespace Go.Proofs.YtnpkcneojilmkaaDoor.Head
open Go.ChangeShapes Go.WideShapes Go.ChangeAt Go.RowKit Base Byt Txt Hp Go.Proofs.YtnpkcneojilmkaaDoor.Mp Fp Go.Proofs.YtnpkcneojilmkaaDoor.Field Go.Lib
set_option linter.unusedVariables false
set_option maxRecDepth 100000
def numF (vals:Nat → Int):Nat → Option Value:=fun i => if 1≤i∧i≤5 then some (.int .i64 (vals i)) else none
theorem numF_val (vals:Nat → Int):∀ j v,numF vals j=some v → v=.int .i64 (vals j):=fun j v h => by
 unfold numF at h
 split at h
 ·exact (Option.some.inj h).symm
 ·cases h
theorem numF_lt {vals:Nat → Int} {j:Nat} {v:Value} (h:numF vals j=some v):1≤j∧j≤5:=by
 unfold numF at h
 split at h
 ·assumption
 ·cases h
theorem numF_at (vals:Nat → Int) {j:Nat} (h1:1≤j) (h2:j≤5):numF vals j=some (.int .i64 (vals j)):=by
 unfold numF;rw [if_pos ⟨h1,h2⟩]
set_option maxHeartbeats 2000000 in
theorem numbersOf_any (n l:ByteArray) (k m u g t z:Int) (gnu:Bool) (vals:Nat → Int) (h1:vals 1=m) (h2:vals 2=u) (h3:vals 3=g) (h4:vals 4=z) (h5:vals 5=t) (w:World) :
 Calls Tryd.prog 79 #[.agg #[.string n,.string l,.int .u8 k,.int .i64 m,.int .i64 u,.int .i64 g,.int .i64 t,.int .i64 z,.bool gnu]] w fun e w' => ∃ N,e=.returned (.map (some N))∧MapF w' N (numF vals)∧w.heap.size≤N∧Kept noneB w w':=by
 obtain ⟨O,hO⟩:∃ O,O=Obj.cells #[.string n,.string l,.int .u8 k,.int .i64 m,.int .i64 u,.int .i64 g,.int .i64 t,.int .i64 z,.bool gnu] 47:=⟨_,rfl⟩;have hm0:=mapF_made (w.alloc O);rw [World.size_alloc,hO] at hm0;have HM0:=Lib.hid hm0;have hb0:((w.alloc O).alloc (.map #[] 0)).heap[w.heap.size]? = some O:=((Kept.refl noneB (w.alloc O)).alloc (.map #[] 0)).some_ (heap_alloc_new w O) id;have hk0:Kept noneB w ((w.alloc O).alloc (.map #[] 0)):=((Kept.refl noneB w).alloc O).alloc _;rw [hO] at hb0 hk0;have HB0:=Lib.hid hb0;have HK0:=Lib.hid hk0;clear hm0 hb0 hk0 hO
 have off:¬ oneB (w.heap.size+1) w.heap.size:=fun e => by
  have:w.heap.size=w.heap.size+1:=e;omega
 have OFF:=Lib.hid off
 have lo:∀ i,oneB (w.heap.size+1) i → w.heap.size≤i ∨ noneB i:=fun i hi => Or.inl (by
  have:i=w.heap.size+1:=hi
  omega)
 have LO:=Lib.hid lo;clear off lo;have mm:=@run_makeMap Tryd.prog
 go_enter Tryd.func79,Tryd.ntmps79
 go_wp2_with (refine wpList_insertF rfl _ _ _ (Or.inr rfl) Tryd.underlying106 Tryd.underlying99 (w.heap.size+1) HM0.out rfl 1 rfl rfl (.int .i64 m) rfl ?_)
 intro w1 HM1 hk1 hs1;have HB1:=Lib.hid (hk1.out.some_ HB0.out OFF.out);have HK1:=Lib.hid (HK0.out.then hk1.out LO.out)
 have c4:=cellsAt HB1.out 4;clear hk1 hs1
 go_wp2_with (refine wpList_insertF rfl _ _ _ (Or.inr rfl) Tryd.underlying106 Tryd.underlying99 (w.heap.size+1) HM1.out rfl 2 rfl rfl (.int .i64 u) rfl ?_)
 intro w2 HM2 hk2 hs2;have HB2:=Lib.hid (hk2.out.some_ HB1.out OFF.out);have HK2:=Lib.hid (HK1.out.then hk2.out LO.out)
 have c5:=cellsAt HB2.out 5;clear hk2 hs2 c4
 go_wp2_with (refine wpList_insertF rfl _ _ _ (Or.inr rfl) Tryd.underlying106 Tryd.underlying99 (w.heap.size+1) HM2.out rfl 3 rfl rfl (.int .i64 g) rfl ?_)
 intro w3 HM3 hk3 hs3;have HB3:=Lib.hid (hk3.out.some_ HB2.out OFF.out);have HK3:=Lib.hid (HK2.out.then hk3.out LO.out)
 have c6:=cellsAt HB3.out 6;clear hk3 hs3 c5
 go_wp2_with (refine wpList_insertF rfl _ _ _ (Or.inr rfl) Tryd.underlying106 Tryd.underlying99 (w.heap.size+1) HM3.out rfl 5 rfl rfl (.int .i64 t) rfl ?_)
 intro w4 HM4 hk4 hs4;have HB4:=Lib.hid (hk4.out.some_ HB3.out OFF.out);have HK4:=Lib.hid (HK3.out.then hk4.out LO.out)
 have c7:=cellsAt HB4.out 7;clear hk4 hs4 c6
 go_wp2_with (refine wpList_insertF rfl _ _ _ (Or.inr rfl) Tryd.underlying106 Tryd.underlying99 (w.heap.size+1) HM4.out rfl 4 rfl rfl (.int .i64 z) rfl ?_)
 intro w5 HM5 hk5 hs5;have HK5:=Lib.hid (HK4.out.then hk5.out LO.out)
 clear hk5 hs5 c7
 go_wp2
 go_ret
 refine ⟨_,rfl,?_,by omega,HK5.out⟩
 have e:(numF vals)=fun y => if y=4 then some (Value.int .i64 z) else if y=5 then some (Value.int .i64 t) else if y=3 then some (Value.int .i64 g) else if y=2 then some (Value.int .i64 u) else if y=1 then some (Value.int .i64 m) else none:=by
  funext y
  unfold numF
  match y with
  | 0 => rfl
  | 1 => rw [h1];rfl
  | 2 => rw [h2];rfl
  | 3 => rw [h3];rfl
  | 4 => rw [h4];rfl
  | 5 => rw [h5];rfl
  | y+6 => rw [if_neg (by omega),if_neg (by omega),if_neg (by omega),if_neg (by omega),if_neg (by omega),if_neg (by omega)]
 rw [e];exact HM5.out
def rowsB (r:Nat → Nat):Nat → Prop:=fun k => ∃ i,i < 11∧k=r i
def numO (h:HeadV) (own:Nat → List UInt8):Nat → List UInt8:=fun i => if 1≤i∧i≤5 then numB h i else own i
def PutNumsPost (w:World) (lo B:Nat) (r:Nat → Nat) (h:HeadV) (own:Nat → List UInt8) (e:Ending) (w':World):Prop:=
 Kept (rowsB r) w w'∧((numsOk h=true∧e=.returned (.bool true)∧PartsAt w' lo B r (numO h own)) ∨ (numsOk h=false∧e=.returned (.bool false)))
set_option maxHeartbeats 2000000 in
theorem putNumbers_any (h:HeadV) (hwf:∀ i,(Lit.int .i64 (numH h i)).wf=true) (lo B:Nat) (r:Nat → Nat) (own:Nat → List UInt8) (w:World) (hP0:PartsAt w lo B r own) (hz:∀ i,1≤i → i≤5 → own i=List.replicate (wideF i) 0) :
 Calls Tryd.prog 66 #[.map (some B),.agg #[.string (str h.name),.string (str h.link),.int .u8 (h.kind.toNat:Int),.int .i64 h.mode,.int .i64 h.uid,.int .i64 h.gid,.int .i64 h.time,.int .i64 h.size,.bool h.gnu]] w (PutNumsPost w lo B r h own):=by
 have fl:=field_own;have HP0:=Lib.hid hP0;have HZ:=Lib.hid hz;have HWF:=Lib.hid hwf;have HK0:=Lib.hid ((Kept.refl noneB w).alloc (.cells #[.string (str h.name),.string (str h.link),.int .u8 (h.kind.toNat:Int),.int .i64 h.mode,.int .i64 h.uid,.int .i64 h.gid,.int .i64 h.time,.int .i64 h.size,.bool h.gnu] 47));clear hP0 hz hwf
 go_enter Tryd.func66,Tryd.ntmps66
 go_wp2_with fail
 refine (numbersOf_any _ _ _ _ _ _ _ _ _ (numH h) rfl rfl rfl rfl rfl _).mono ?_
 rintro e w1 ⟨N,rfl,hN,hNl,hk1⟩;have HN:=Lib.hid hN;have HP1:=Lib.hid ((HP0.out.kept0 HK0.out).kept0 hk1);have HK1:=Lib.hid (HK0.out.trans hk1);clear hN hNl hk1;obtain ⟨R,hR⟩:∃ R,R=w1.heap.size:=⟨_,rfl⟩
 go_wp2_with (first | (at_range;refine wpList_rangeF rfl _ rfl Tryd.underlying106 N HN.out (fun _ => true) (fun _ _ _ => rfl) rfl R hR ?_;intro w2 HI hk2 hs2) | go_in)
 have HK2:=Lib.hid ((HK1.out.trans hk2.out).of_none (rowsB r));have HP2:=Lib.hid (HP1.out.kept0 hk2.out);have HRL:Hid (w.heap.size≤R):=Lib.hid (by rw [hR];exact HK1.out.size)
 clear hk2 hs2 hR
 try go_frame
 go_loopw [12] (fun _ wr => ∃ todo,Hid (IterF wr N R (numF (numH h)) todo)∧Hid (PartsAt wr lo B r (mixO todo own (numO h own)))∧Hid (Kept (rowsB r) w wr)∧Hid (∀ i,1≤i → i≤5 → todo i=false → (putF (numH h i) (wideF i)).isSome=true)) (fun _ wr => wr.rangeLeft N R)
 case atStart => exact ⟨fun _ => true,HI,by
  have e:mixO (fun _ => true) own (numO h own)=own:=by funext i;exact if_pos rfl
  rw [e];exact HP2,HK2,Lib.hid (fun i _ _ h => by cases h)⟩
 case round =>
  obtain ⟨todo,hI,hP,hK,hD⟩:=hrel
  go_wp2_with (at_next;refine wpList_nextF rfl _ rfl N R todo (fun j => .int .i64 (numH h j)) (numF_val _) rfl hI.out ?_ ?_)
  ·intro hd
   have hall:∀ i,1≤i → i≤5 → todo i=false:=fun i h1 h2 => hd i _ (numF_at _ h1 h2)
   have HE:Hid (numsOk h=true∧mixO todo own (numO h own)=numO h own):=Lib.hid ⟨numsOk_iff.2 fun i h1 h2 => hD.out i h1 h2 (hall i h1 h2),by
    funext i
    unfold mixO
    split
    ·rename_i ht
     unfold numO;rw [if_neg];rintro ⟨h1,h2⟩;rw [hall i h1 h2] at ht
     cases ht
    ·rfl⟩
   clear hd hall
   go_wp2
   go_ret
   refine ⟨hK.out,Or.inl ⟨HE.out.1,rfl,?_⟩⟩;have h1:=hP.out;rw [HE.out.2] at h1;exact h1
  ·intro j w3 v hj htj HI3 HLT HK3 hs3 hen
   have hj:=numF_lt hj;obtain ⟨hj1,hj5⟩:=hj;have hj11:j < 11:=by omega
   have hP3:=hP.out.kept HK3.out (fun e => by
    have h1:=hP.out.map;have h2:=hI.out;obtain ⟨es,clock,hb,_⟩:=h1;obtain ⟨_,_,_,_,_,_,_,_,_,hr,_⟩:=h2;have e:B=R:=e;rw [← e,hb] at hr
    cases hr) (fun i hi e => (iter_off hI.out (hP.out.row i hi)).2 e)
   have hK3:=hK.out.then HK3.out (fun i hi => Or.inl (by
    have h1:i=R:=hi;have:=HRL.out
    omega))
   have lk:(Instr.lookup 95 (.map (some B)) (.int .i64 (j:Int)) false).run Tryd.prog w3=.ok (.agg #[.int .i64 (atF j),.slice (some ⟨r j,0,none⟩) (wideF j) (wideF j)]) w3:=
    hP3.map.look (P:=Tryd.prog) Tryd.underlying95 Tryd.underlying99 (x:=j) (v:=partV r j) (by unfold partF;rw [if_pos hj11])
   have hw:=wide_pos hj11;have HJ:=Lib.hid hj11;have HP3:=Lib.hid hP3;have HKK:=Lib.hid hK3;have HW:=Lib.hid hw;have HTJ:=Lib.hid htj;have HJ1:Hid (1≤j∧j≤5):=Lib.hid ⟨hj1,hj5⟩;have HROW3:=Lib.hid (iter_off (HI3.out) (HP3.out.row j hj11));clear hP3 hK3 hw htj
   go_wp2_with fail
   refine (put_any (numH h j) (wideF j) w3 (HWF.out j) (by
    have:=HW.out
    exact WalkArith.wf_i64 (by omega))).mono ?_
   rintro e w4 ⟨hb4,(⟨l,v4,hl,rfl,hown⟩ | ⟨hl,rfl⟩)⟩
   ·have hlen:=putF_length hl
    obtain ⟨p4,c4,rfl,hc4,hm4,hbat,_⟩:=put_bat rfl hl hown;have hk4:Kept noneB w3 w4:=Kept.of_below hb4 _;have HP4:=Lib.hid (HP3.out.kept0 hk4);have HK4:=Lib.hid (HKK.out.trans (hk4.of_none _));have hI4:=HI3.out.kept hk4 id id;have HI4:=Lib.hid hI4.1;have HL4:Hid (w4.rangeLeft N R < wr.rangeLeft N R):=Lib.hid (by rw [hI4.2];exact HLT.out)
    have hbl:(bytesOf l).length=wideF j:=by rw [bytesOf_length];omega
    have cs:(convert 24 9 (.slice p4 l.length c4)).run Tryd.prog w4=.ok (.string (str (bytesOf l))) w4:=conv_at hbat (by rw [bytesOf_length]) _ _ _ Tryd.underlying24 Tryd.underlying5 Tryd.underlying9 c4
    have HB:Hid (numB h j=bytesOf l):=Lib.hid (numB_some hl);have HBL:=Lib.hid hbl;have HSO:Hid ((putF (numH h j) (wideF j)).isSome=true):=Lib.hid (by rw [hl];rfl)
    clear hl hown hlen hc4 hm4 hbat hb4 hk4 hI4 lk hbl
    go_wp2_with fail
    refine (put_field lo B r _ j (str (bytesOf l)) w4 HJ.out HP4.out).mono ?_
    rintro e w5 ⟨rfl,hP5,hk5,hs5⟩;have hold:(mixO todo own (numO h own) j).length=wideF j:=HP4.out.fit j;rw [str_data,List.take_of_length_le (by rw [HBL.out];exact Nat.le_refl _),putInto_all (by rw [HBL.out,hold])] at hP5
    have e5:=mix_step (todo:=todo) (a:=own) (b:=numO h own) j;rw [show numO h own j=bytesOf l by unfold numO;rw [if_pos HJ1.out,HB.out]] at e5
    rw [e5] at hP5;have HP5:=Lib.hid hP5;have HK5:=Lib.hid hk5;clear hP5 hk5 hs5 hold e5 cs
    go_wp2
    go_roundw
    case rel =>
     have hI5:=HI4.out.kept HK5.out (fun e => HROW3.out.1 (Eq.symm e)) (fun e => HROW3.out.2 (Eq.symm e))
     refine ⟨fun z => todo z && z != j,Lib.hid hI5.1,HP5,Lib.hid (HK4.out.trans (HK5.out.mono (fun k hk => ⟨j,HJ.out,hk⟩))),Lib.hid (fun i h1 h2 ht => ?_)⟩
     by_cases hij:i=j
     ·rw [hij];exact HSO.out
     ·have h3:(i != j)=true:=by simpa using hij
      have ht:(todo i && i != j)=false:=ht;rw [h3,Bool.and_true] at ht;exact hD.out i h1 h2 ht
    case measure =>
     have hI5:=HI4.out.kept HK5.out (fun e => HROW3.out.1 (Eq.symm e)) (fun e => HROW3.out.2 (Eq.symm e))
     have h1:=HL4.out;have h2:=hI5.2;omega
   ·have HE:Hid (numsOk h=false):=Lib.hid (by
     cases hc:numsOk h with
     | false => rfl
     | true =>
       have:=numsOk_iff.1 hc j HJ1.out.1 HJ1.out.2;rw [hl] at this
       cases this)
    have HK4:=Lib.hid (HKK.out.trans (Kept.of_below hb4 _));clear hl hb4 lk
    go_wp2
    go_ret
    exact ⟨HK4.out,Or.inr ⟨HE.out,rfl⟩⟩
end Go.Proofs.YtnpkcneojilmkaaDoor.Head
end
section
namespace Go.Proofs.YtnpkcneojilmkaaDoor.Head
open Go.ChangeShapes Go.WideShapes Go.ChangeAt Go.RowKit Base Byt Txt Hp Go.Proofs.YtnpkcneojilmkaaDoor.Mp Fp Go.Proofs.YtnpkcneojilmkaaDoor.Field Go.Lib
set_option linter.unusedVariables false
set_option maxRecDepth 100000
theorem kept9 {w0 w:World} {g:Nat} (h:Kept (oneB g) w0 w) (v0 v1 v2 v3 v4 v5 v6 v7 v8:Value) :
 Kept (oneB g) w0 (((((((((w.setCell ⟨g,0,none⟩ v0).setCell ⟨g,1,none⟩ v1).setCell ⟨g,2,none⟩ v2).setCell ⟨g,3,none⟩ v3).setCell ⟨g,4,none⟩ v4).setCell ⟨g,5,none⟩ v5).setCell ⟨g,6,none⟩ v6).setCell ⟨g,7,none⟩ v7).setCell ⟨g,8,none⟩ v8):=by
 have st:∀ {w:World} (i:Nat) (v:Value),Kept (oneB g) w0 w → Kept (oneB g) w0 (w.setCell ⟨g,i,none⟩ v):=fun i v h => h.setCell (a:=⟨g,i,none⟩) (Or.inr (show oneB g g from rfl)) v
 exact st 8 v8 (st 7 v7 (st 6 v6 (st 5 v5 (st 4 v4 (st 3 v3 (st 2 v2 (st 1 v1 (st 0 v0 h))))))))
end Go.Proofs.YtnpkcneojilmkaaDoor.Head
end
section
namespace Go.Proofs.YtnpkcneojilmkaaDoor.Head
open Go.ChangeShapes Go.WideShapes Go.ChangeAt Go.RowKit Base Byt Txt Hp Go.Proofs.YtnpkcneojilmkaaDoor.Mp Fp Go.Proofs.YtnpkcneojilmkaaDoor.Field Go.Lib
set_option linter.unusedVariables false
set_option maxRecDepth 100000
theorem index_zero (l:List UInt8):decide (0≤Lib.indexByte l 0)=l.contains 0:=by
 cases hc:l.contains 0 with
 | true =>
   rw [decide_eq_true_eq];have hm:(0:UInt8) ∈ l:=by simpa using hc
   obtain ⟨k,hk⟩:=List.getElem?_of_mem hm;have hge:=Lib.indexByte_ge l 0;rcases Int.lt_or_le (Lib.indexByte l 0) 0 with h | h
   ·exact absurd hk (Lib.indexByte_none (show Lib.indexByte l 0 = -1 by omega) k)
   ·exact h
 | false =>
   rw [decide_eq_false_iff_not];intro h;obtain ⟨k,hk⟩:∃ k:Nat,Lib.indexByte l 0=k:=⟨(Lib.indexByte l 0).toNat,by omega⟩
   have h1:=List.mem_of_getElem? (Lib.indexByte_some hk).1;have h2:l.contains 0=true:=by simpa using h1
   rw [hc] at h2
   cases h2
theorem contains_any (l:List UInt8) (w:World):Calls Tryd.prog 64 #[.string (str l),.string ⟨#[0]⟩] w fun e w' => e=.returned (.bool (l.contains 0))∧w=w':=
 (Any.strings_Contains_one Tryd.laysConts (str l) 0 w).mono fun e w' ⟨h1,h2⟩ => ⟨by rw [h1,str_data,index_zero],h2.symm⟩
theorem put_zero {own:Nat → List UInt8} {i:Nat} {t:List UInt8} (hz:own i=List.replicate (wideF i) 0) (hl:t.length≤wideF i):putInto (own i) (t.take (wideF i))=padTo (wideF i) t:=by
 rw [hz,List.take_of_length_le hl,putInto_zero]
theorem putR_cut {h:HeadV} (hc:cutR h.name=none):putR h=none:=by unfold putR;rw [hc]
theorem putR_bad {h:HeadV} (hb:badH h=true):putR h=none:=by
 unfold putR
 cases cutR h.name with
 | none => rfl
 | some ps => simp only;rw [if_pos (by rw [hb];rfl)]
theorem putR_num {h:HeadV} (hn:numsOk h=false):putR h=none:=by
 unfold putR
 cases cutR h.name with
 | none => rfl
 | some ps => simp only;rw [if_pos (by rw [hn];simp)]
theorem putR_ok {h:HeadV} {p s:List UInt8} (hc:cutR h.name=some (p,s)) (hb:badH h=false) (hn:numsOk h=true):putR h=some (blockA (own2 h p s)):=by
 unfold putR;rw [hc];simp only;rw [if_neg (by rw [hb,hn];simp)]
def PutHPost (w:World) (r:Option (List UInt8)) (e:Ending) (w':World):Prop:=
 Kept noneB w w'∧((∃ bs g,r=some bs∧e=.returned (.tuple #[.slice (some ⟨g,0,none⟩) 512 512,.bool true])∧RowB w' g bs∧w.heap.size≤g) ∨ (r=none∧e=.returned (.tuple #[.slice none 0 0,.bool false])))
theorem one_bat (w:World) (k:UInt8):BAt (w.alloc (.cells #[.int .u8 (k.toNat:Int)] 5)) (some ⟨w.heap.size,0,none⟩) 1 [k]:=fun _ =>
 ⟨w.heap.size,0,rfl,fun i hi => by
  obtain rfl:i=0:=by omega
  rw [World.cell?_alloc_at _ _ _ _ rfl]
  rfl⟩
theorem own1_field (h:HeadV) (p s:List UInt8):own1 h p s 0=padTo 100 s∧own1 h p s 6=List.replicate 8 0∧own1 h p s 7=[h.kind]∧own1 h p s 8=padTo 100 h.link∧own1 h p s 9=ustarB∧own1 h p s 10=padTo 155 p ∧ ∀ i,1≤i → i≤5 → own1 h p s i=numB h i:=by
 refine ⟨rfl,rfl,rfl,rfl,rfl,rfl,fun i h1 h2 => ?_⟩
 unfold own1;rw [if_neg (by omega),if_neg (by omega),if_neg (by omega),if_neg (by omega),if_neg (by omega),if_neg (by omega),if_pos h2]
set_option maxHeartbeats 4000000 in
theorem putH_any (h:HeadV) (hwf:∀ i,(Lit.int .i64 (numH h i)).wf=true) (hnl:h.name.length≤140737488351232) (hll:h.link.length≤140737488351232) (w:World) :
 Calls Tryd.prog 52 #[.agg #[.string (str h.name),.string (str h.link),.int .u8 (h.kind.toNat:Int),.int .i64 h.mode,.int .i64 h.uid,.int .i64 h.gid,.int .i64 h.time,.int .i64 h.size,.bool h.gnu]] w (PutHPost w (putR h)):=by
 obtain ⟨w0,hw0⟩:∃ w0,w0=w.alloc (.cells #[.string (str h.name),.string (str h.link),.int .u8 (h.kind.toNat:Int),.int .i64 h.mode,.int .i64 h.uid,.int .i64 h.gid,.int .i64 h.time,.int .i64 h.size,.bool h.gnu] 47):=⟨_,rfl⟩;have HW:Hid (Kept noneB w w0):=Lib.hid (by rw [hw0];exact (Kept.refl _ _).alloc _)
 have HB0:Hid (w0.heap[w.heap.size]? = some (.cells (headC h) 47 (0,0))):=Lib.hid (by rw [hw0];exact heap_alloc_new _ _)
 have HWF:=Lib.hid hwf;have hls:(str h.link).size=h.link.length:=str_size _;clear hwf
 go_enter Tryd.func52,Tryd.ntmps52
 go_wp2_with fail
 rw [← hw0];clear hw0;refine (hcut_any (str h.name) w0 (by rw [str_size];exact hnl)).mono ?_
 rintro e w1 ⟨rfl,hk1⟩;rw [str_data];have HK1:=Lib.hid hk1;clear hk1
 cases hcut:cutR h.name with
 | none =>
   rw [cutV_none hcut];have hR:=putR_cut hcut;have HR:=Lib.hid hR;clear hR hcut;have c1:=cellsAt (HK1.out.some_ HB0.out id);unfold headC at c1
   go_wp2
   go_ret2
   exact ⟨HW.out.trans HK1.out,Or.inr ⟨HR.out,rfl⟩⟩
 | some ps =>
   obtain ⟨p,s⟩:=ps;rw [cutV_some hcut];have HCUT:=Lib.hid hcut;have HSP:=Lib.hid (cutR_spec hcut);clear hcut;have c1:=cellsAt (HK1.out.some_ HB0.out id);unfold headC at c1
   by_cases hgn:h.gnu=true
   ·have HR:Hid (putR h=none):=Lib.hid (putR_bad (by unfold badH;rw [hgn];rfl))
    rw [hgn] at c1;clear hgn
    go_wp2
    go_ret2
    exact ⟨HW.out.trans HK1.out,Or.inr ⟨HR.out,rfl⟩⟩
   ·have hgn':h.gnu=false:=by simpa using hgn
    have HGN:=Lib.hid hgn'
    by_cases hk0:h.kind=0
    ·have HR:Hid (putR h=none):=Lib.hid (putR_bad (by unfold badH;rw [hgn',hk0];rfl))
     rw [hgn',hk0] at c1;have c1:∀ i,w1.cell? ⟨w.heap.size,i,none⟩=(#[.string (str h.name),.string (str h.link),.int .u8 0,.int .i64 h.mode,.int .i64 h.uid,.int .i64 h.gid,.int .i64 h.time,.int .i64 h.size,.bool false]:Array Value)[i]?:=c1;clear hgn hgn' hk0
     go_wp2
     go_ret2
     exact ⟨HW.out.trans HK1.out,Or.inr ⟨HR.out,rfl⟩⟩
    ·have hkk:((h.kind.toNat:Int) == 0)=false:=by
      have h1:h.kind.toNat≠0:=fun e => hk0 (UInt8.toNat_inj.1 e)
      simp;omega
     have HKD:=Lib.hid hk0;have hkz:¬ ((h.kind.toNat:Int)=0):=by simpa using hkk
     by_cases hlk:h.link.length≤100
     ·rw [hgn'] at c1
      clear hgn hgn' hk0
      go_wp2_with fail
      refine (contains_any h.name w1).mono ?_
      rintro e w1' ⟨rfl,rfl⟩
      by_cases hz1:h.name.contains 0=true
      ·have HR:Hid (putR h=none):=Lib.hid (putR_bad (by unfold badH;rw [hz1];simp))
       rw [hz1];clear hz1
       go_wp2
       go_ret2
       exact ⟨HW.out.trans HK1.out,Or.inr ⟨HR.out,rfl⟩⟩
      ·have hz1':h.name.contains 0=false:=by simpa using hz1
       have HZ1:=Lib.hid hz1';rw [hz1'];clear hz1 hz1'
       go_wp2_with fail
       refine (contains_any h.link w1).mono ?_
       rintro e w1' ⟨rfl,rfl⟩
       by_cases hz2:h.link.contains 0=true
       ·have HR:Hid (putR h=none):=Lib.hid (putR_bad (by unfold badH;rw [hz2];simp))
        rw [hz2];clear hz2
        go_wp2
        go_ret2
        exact ⟨HW.out.trans HK1.out,Or.inr ⟨HR.out,rfl⟩⟩
       ·have hz2':h.link.contains 0=false:=by simpa using hz2
        have HBAD:Hid (badH h=false):=Lib.hid (by
         unfold badH;rw [HGN.out,HZ1.out,hz2'];have h1:(h.kind == 0)=false:=by simpa using HKD.out
         have h2:¬ 100 < h.link.length:=by omega
         rw [h1]
         simp [h2])
        rw [hz2'];clear hz2 hz2'
        go_wp2_with fail
        refine (blank_any w1).mono ?_
        rintro e w2 ⟨B,r,rfl,hP2,hk2⟩;have HK2:=Lib.hid (HK1.out.trans hk2);have HLO:Hid (w0.heap.size≤w1.heap.size):=Lib.hid HK1.out.size;obtain ⟨lo,hlo⟩:∃ lo,lo=w1.heap.size:=⟨_,rfl⟩;rw [← hlo] at hP2;have HLW:Hid (w0.heap.size≤lo):=Lib.hid (by rw [hlo];exact HLO.out)
        have HP2:=Lib.hid hP2;have HROW:Hid (∀ i,i < 11 → w0.heap.size≤r i):=Lib.hid (fun i hi => Nat.le_trans HLW.out (hP2.lo.2 i hi))
        clear hP2 hk2 hlo c1;have c2:=cellsAt (HK2.out.some_ HB0.out id);unfold headC at c2;rw [HGN.out] at c2
        go_wp2_with fail
        refine Calls.mono (show Calls _ _ _ _ (PutNumsPost w2 lo B r h zeroO) by
         have hh:=putNumbers_any h HWF.out lo B r zeroO w2 HP2.out (fun i _ _ => rfl)
         rw [HGN.out] at hh
         exact hh) ?_
        intro e w3 h3;obtain ⟨hk3,(⟨hok,rfl,hP3⟩ | ⟨hno,rfl⟩)⟩:=h3
        ·have HOK:=Lib.hid hok
         have HP3:=Lib.hid hP3
         have HK3:=Lib.hid (HK2.out.then hk3 (fun k hk => Or.inl (by
          obtain ⟨i,hi,rfl⟩:=hk
          exact HROW.out i hi)))
         have hKT:∀ (i:Nat) (wa wb:World),i < 11 → Kept noneB w0 wa → Kept (oneB (r i)) wa wb → Kept noneB w0 wb:=fun i wa wb hi ha hb => ha.then hb (fun k hk => Or.inl (by
          have h1:k=r i:=hk;rw [h1]
          exact HROW.out i hi))
         have HKT:=Lib.hid hKT;have hsl:s.length≤100:=HSP.out.1;have hpl:p.length≤155:=HSP.out.2.1;clear hok hP3 hk3 c2 hKT
         go_wp2_with fail
         refine (put_field lo B r _ 0 (str s) w3 (by omega) HP3.out).mono ?_
         rintro e w4 ⟨rfl,hP4,hk4,-⟩;rw [str_data,put_zero (i:=0) (t:=s) rfl hsl] at hP4;have HP4:=Lib.hid hP4;have HK4:=Lib.hid (HKT.out 0 _ _ (by omega) HK3.out hk4)
         clear hP4 hk4
         go_wp2_with fail
         refine (put_field lo B r _ 10 (str p) w4 (by omega) HP4.out).mono ?_
         rintro e w5 ⟨rfl,hP5,hk5,-⟩;rw [str_data,put_zero (i:=10) (t:=p) rfl hpl] at hP5;have HP5:=Lib.hid hP5;have HK5:=Lib.hid (HKT.out 10 _ _ (by omega) HK4.out hk5)
         clear hP5 hk5;have c5:=cellsAt (HK5.out.some_ HB0.out id);unfold headC at c5
         have cvk:(convert 24 9 (.slice (some ⟨w5.heap.size,0,none⟩) 1 1)).run Tryd.prog (w5.alloc (.cells #[.int .u8 (h.kind.toNat:Int)] 5))=.ok (.string (str [h.kind])) (w5.alloc (.cells #[.int .u8 (h.kind.toNat:Int)] 5)):=
          conv_at (one_bat w5 h.kind) rfl _ _ _ Tryd.underlying24 Tryd.underlying5 Tryd.underlying9 1
         have HA5:=Lib.hid ((Kept.refl noneB w5).alloc (.cells #[.int .u8 (h.kind.toNat:Int)] 5))
         go_wp2_with fail
         refine (put_field lo B r _ 7 (str [h.kind]) _ (by omega) (HP5.out.kept0 HA5.out)).mono ?_
         rintro e w6 ⟨rfl,hP6,hk6,-⟩;rw [str_data,put_zero (i:=7) (t:=[h.kind]) rfl (Nat.le_refl 1)] at hP6;have HP6:=Lib.hid hP6;have HK6:=Lib.hid (HKT.out 7 _ _ (by omega) (HK5.out.trans HA5.out) hk6)
         clear hP6 hk6 c5 cvk;have c6:=cellsAt (HK6.out.some_ HB0.out id);unfold headC at c6
         go_wp2_with fail
         refine (put_field lo B r _ 8 (str h.link) w6 (by omega) HP6.out).mono ?_
         rintro e w7 ⟨rfl,hP7,hk7,-⟩;rw [str_data,put_zero (i:=8) (t:=h.link) rfl hlk] at hP7;have HP7:=Lib.hid hP7;have HK7:=Lib.hid (HKT.out 8 _ _ (by omega) HK6.out hk7)
         clear hP7 hk7 c6
         go_wp2_with fail
         refine (put_field lo B r _ 9 _ w7 (by omega) HP7.out).mono ?_
         rintro e w8 ⟨rfl,hP8,hk8,-⟩;rw [show (ByteArray.mk #[117,115,116,97,114,0,48,48]).data.toList=ustarB from rfl,put_zero (i:=9) (t:=ustarB) rfl (Nat.le_refl 8)] at hP8
         have HK8:=Lib.hid (HKT.out 9 _ _ (by omega) HK7.out hk8)
         obtain ⟨own,hown⟩:∃ own,own=upd (upd (upd (upd (upd (numO h zeroO) 0 (padTo (wideF 0) s)) 10 (padTo (wideF 10) p)) 7 (padTo (wideF 7) [h.kind])) 8 (padTo (wideF 8) h.link)) 9 (padTo (wideF 9) ustarB):=⟨_,rfl⟩;rw [← hown] at hP8
         have ho1:own=own1 h p s:=by
          have hf1:=own1_field h p s;refine fits_ext hP8.fit (own1_fits hsl hpl hlk HOK.out) fun i hi => ?_
          rw [hown];rcases cases11 hi with rfl | rfl | rfl | rfl | rfl | rfl | rfl | rfl | rfl | rfl | rfl
          ·rw [hf1.1];rfl
          ·rw [hf1.2.2.2.2.2.2 1 (by omega) (by omega)];rfl
          ·rw [hf1.2.2.2.2.2.2 2 (by omega) (by omega)];rfl
          ·rw [hf1.2.2.2.2.2.2 3 (by omega) (by omega)];rfl
          ·rw [hf1.2.2.2.2.2.2 4 (by omega) (by omega)];rfl
          ·rw [hf1.2.2.2.2.2.2 5 (by omega) (by omega)];rfl
          ·rw [hf1.2.1];rfl
          ·rw [hf1.2.2.1];rfl
          ·rw [hf1.2.2.2.1];rfl
          ·rw [hf1.2.2.2.2.1];rfl
          ·rw [hf1.2.2.2.2.2.1];rfl
         rw [ho1] at hP8;have HP8:=Lib.hid hP8;clear hP8 hk8 hown ho1 own
         go_wp2_with fail
         refine (block_any lo B r (own1 h p s) w8 HP8.out).mono ?_
         rintro e w9 ⟨g1,rfl,hR9,hg9,hk9⟩;have HP9:=Lib.hid (HP8.out.kept0 hk9);have HK9:=Lib.hid (HK8.out.trans hk9);have hb9:=hR9.bat;rw [blockA_length] at hb9;have HB9:=Lib.hid hb9;clear hR9 hg9 hk9 hb9
         have hS:((plainTo (blockA (own1 h p s)) 512:Nat):Int) - (plainTo (own1 h p s 6) 8:Nat)+256=(sumTo (blockA (own1 h p s)) 512:Nat):=by
          have h1:=sum_parts (bs:=blockA (own1 h p s));rw [field_blockA HP9.out.fit (by omega)] at h1
          omega
         have hSL:=sumTo_le (blockA (own1 h p s)) 512;obtain ⟨S,hSd⟩:∃ S,S=sumTo (blockA (own1 h p s)) 512:=⟨_,rfl⟩;rw [← hSd] at hS hSL;have HS:=Lib.hid hS;have HSD:=Lib.hid hSd;clear hS hSd
         go_wp2_with fail
         refine (sum_any lo B r (own1 h p s) _ 512 512 (blockA (own1 h p s)) w9 (by omega) HB9.out HP9.out).mono ?_
         rintro e w9' ⟨rfl,rfl⟩;rw [HS.out]
         go_wp2_with fail
         refine (put_any (S:Int) 7 w9 (WalkArith.wf_i64 (by omega)) (by decide)).mono ?_
         rintro e w10 ⟨hb10,(⟨l,v,hl,rfl,hown⟩ | ⟨hl,rfl⟩)⟩
         ·obtain ⟨p10,c10,rfl,hc10,hm10,hbat,_⟩:=put_bat rfl hl hown
          rw [putF_sum (by omega)] at hl
          have hl:=Option.some.inj hl;have hl7:l.length=7:=by rw [← hl];simp [putD_length]
          have hk10:Kept noneB w9 w10:=Kept.of_below hb10 _;have HP10:=Lib.hid (HP9.out.kept0 hk10);have HK10:=Lib.hid (HK9.out.trans hk10);have cs:(convert 24 9 (.slice p10 l.length c10)).run Tryd.prog w10=.ok (.string (str (bytesOf l))) w10:=conv_at hbat (by rw [bytesOf_length]) _ _ _ Tryd.underlying24 Tryd.underlying5 Tryd.underlying9 c10
          have hsz:(str (bytesOf l)).size=7:=by rw [str_size,bytesOf_length,hl7]
          have HL:=Lib.hid hl;have HL7:=Lib.hid hl7;clear hl hl7 hown hc10 hm10 hbat hb10 hk10
          go_wp2_with fail
          refine (put_field lo B r _ 6 _ w10 (by omega) HP10.out).mono ?_
          rintro e w11 ⟨rfl,hP11,hk11,-⟩
          have e6:(str (bytesOf l)++⟨#[32]⟩).data.toList=sumB S:=by
           rw [show (⟨#[32]⟩:ByteArray)=str [32] from rfl,str_app',str_data,sumB,HL.out]
          rw [e6,List.take_of_length_le (by rw [sumB_length];exact Nat.le_refl _),putInto_all (by rw [sumB_length,(own1_field h p s).2.1];rfl),HSD.out] at hP11
          have HP11:=Lib.hid (show PartsAt w11 lo B r (own2 h p s) from hP11)
          have HK11:=Lib.hid (HKT.out 6 _ _ (by omega) HK10.out hk11)
          clear hP11 hk11 e6 cs
          go_wp2_with fail
          refine (block_any lo B r (own2 h p s) w11 HP11.out).mono ?_
          rintro e w12 ⟨g2,rfl,hR12,hg12,hk12⟩;have HR12:=Lib.hid hR12;have HG12:Hid (w.heap.size≤g2):=Lib.hid (Nat.le_trans (Nat.le_trans HW.out.size HK11.out.size) hg12);have HK12:=Lib.hid (HK11.out.trans hk12);have HPR:=Lib.hid (putR_ok HCUT.out HBAD.out HOK.out);clear hR12 hg12 hk12
          go_wp2
          go_ret2
          exact ⟨HW.out.trans HK12.out,Or.inl ⟨_,g2,HPR.out,rfl,HR12.out,HG12.out⟩⟩
         ·exfalso
          rw [putF_sum (by omega)] at hl
          cases hl
        ·have HR:Hid (putR h=none):=Lib.hid (putR_num hno)
         have HK3:=Lib.hid (HK2.out.then hk3 (fun k hk => Or.inl (by
          obtain ⟨i,hi,rfl⟩:=hk
          exact HROW.out i hi)))
         clear hno hk3 c2
         go_wp2
         go_ret2
         exact ⟨HW.out.trans HK3.out,Or.inr ⟨HR.out,rfl⟩⟩
     ·have hlk2:100 < h.link.length:=by omega
      have HR:Hid (putR h=none):=Lib.hid (putR_bad (by unfold badH;simp [hlk2]))
      rw [hgn'] at c1;clear hgn hgn' hk0
      go_wp2
      go_ret2
      exact ⟨HW.out.trans HK1.out,Or.inr ⟨HR.out,rfl⟩⟩
end Go.Proofs.YtnpkcneojilmkaaDoor.Head
end
section
namespace Go.Proofs.YtnpkcneojilmkaaDoor.Wr
open Go.ChangeShapes Go.WideShapes Go.ChangeAt Go.RowKit Base Byt Txt Bk Hp Head Rec Mem Block Go.Lib
set_option linter.unusedVariables false
set_option maxRecDepth 100000
theorem own8_ne {w:World} {B n b:Nat} {v:Value} {bs:List UInt8} {t:TypeId} {cs:Array Value} (ho:OwnB w B v n bs) (hb:Blk w b t cs) (ht:t≠5):v.ownBlock≠some b:=fun e => by
 rcases ho.2 with ⟨rfl,_⟩ | ⟨g,cap,cur,rfl,_,hg,_⟩
 ·cases e
 ·have hgb:g=b:=by simpa [Value.ownBlock] using e
  subst hgb;unfold Blk at hb;rw [hb] at hg;simp only [Option.some.injEq,Obj.cells.injEq] at hg;exact ht hg.2.1
theorem padB_is (l:List UInt8):padB l=l++zerosTo l.length:=rfl
theorem put_after {w w2 w':World} {g B:Nat} {v:Value} {X xs:List UInt8} {e:Ending} (hk:Kept noneB w w2) (h:PutPost w2 g B v X xs e w'):PutPost w g B v X xs e w':=by
 obtain ⟨v',he,h1,h2,h3⟩:=h;exact ⟨v',he,h1,(hk.of_none _).trans h2,fun k hk' => (h3 k hk').imp id (Nat.le_trans hk.size)⟩
structure Laid (w:World) (g B:Nat) (v:Value) (wx:World) (v':Value) (Y:List UInt8):Prop where
 snk:Snk wx g B v' Y
 kept:Kept (putB g v) w wx
 new:NewOr w v v'
section
variable {w wx wy:World} {g B:Nat} {v v':Value} {X Y xs:List UInt8}
theorem Laid.start (h:Snk w g B v X):Laid w g B v w v X:=⟨h,Kept.refl _ _,NewOr.refl _ _⟩
theorem Laid.after (h:Laid w g B v wx v' Y) (hk:Kept noneB wx wy):Laid w g B v wy v' Y:=⟨h.snk.kept hk id (fun _ _ => id),h.kept.trans (hk.of_none _),h.new⟩
theorem Laid.step {e:Ending} (h:Laid w g B v wx v' Y) (hp:PutPost wx g B v' Y xs e wy):∃ v'',e=.returned (.tuple #[])∧Laid w g B v wy v'' (Y++xs)∧Kept (putB g v') wx wy∧NewOr wx v' v'':=by
 obtain ⟨u,he,h1,h2,h3⟩:=hp;refine ⟨u,he,⟨h1,h.kept.then h2 (fun i hi => ?_),h.new.trans h3 h.kept.size⟩,h2,h3⟩
 rcases hi with hi | hi
 ·exact .inr (.inl hi)
 ·rcases h.new i hi with h4 | h4
  ·exact .inr (.inr h4)
  ·exact .inl h4
theorem Laid.blk (h:Laid w g B v wx v' Y) (hk:Kept (putB g v') wx wy) {b:Nat} {t:TypeId} {cs:Array Value} (hb:Blk wx b t cs) (h8:t≠5) (hS:b≠g):Blk wy b t cs:=
 hb.keptS hk (fun e => by
  rcases e with e | e
  ·exact hS e
  ·exact own8_ne h.snk.own hb h8 e)
theorem Laid.post {e:Ending} (h:Laid w g B v wx v' (X++Y)) (he:e=.returned (.tuple #[])):PutPost w g B v X Y e wx:=⟨v',he,h.snk,h.kept,h.new⟩
end
theorem sput1_any (w:World) (g B:Nat) (v:Value) (X:List UInt8) (h:Snk w g B v X) (hB:B≤w.heap.size) (q1:Option Addr) (m1 c1:Nat) (x1:List UInt8)
 (h1:BAt w q1 m1 x1) (l1:x1.length=m1) (o1:0 < m1 → ∀ x,q1=some x → v.ownBlock≠some x.block) (hsum:X.length+m1≤140737488351232) :
 Calls Tryd.prog 40 #[.pointer (some ⟨g,0,none⟩),.slice (some ⟨w.heap.size,0,none⟩) 1 1] (w.alloc (.cells #[.slice q1 m1 c1] 24)) (PutPost w g B v X x1):=by
 have hk:Kept noneB w (w.alloc (.cells #[.slice q1 m1 c1] 24)):=(Kept.refl _ w).alloc _;have hcat:=catB_one x1;rw [← hcat];refine (sput_any _ g B v X (h.kept hk id (fun _ _ => id)) (Nat.le_trans hB hk.size) _ 1 1 (fun _ => q1) (fun _ => m1) (fun _ => c1) (fun _ => x1) ?_ (by decide) ?_ ?_ ?_).mono ?_
 ·intro _
  refine ⟨w.heap.size,0,rfl,by simp,fun i hi => ?_⟩
  match i,hi with
  | 0,_ => exact ⟨by simp,h1.kept hk (fun _ _ _ => id),l1⟩
 ·intro _ x hx
  cases hx
  have h3:=h.lt;refine ⟨by show w.heap.size≠g;omega,fun e => ?_⟩
  have:w.heap.size < w.heap.size:=(h.own.lt _ e).2;omega
 ·intro i hi
  match i,hi with
  | 0,_ => exact o1
 ·rw [hcat,List.length_append,l1];omega
 ·rintro e w' h
  exact put_after hk h
set_option maxHeartbeats 1000000 in
theorem layHead_any (w:World) (g B:Nat) (v:Value) (X:List UInt8) (hs:Snk w g B v X) (hB:B≤w.heap.size) (h:HeadV) (hwf:∀ i,(Lit.int .i64 (numH h i)).wf=true) (hnl:h.name.length≤140737488351232) (hll:h.link.length≤140737488351232)
 (bs:List UInt8) (hp:putR h=some bs) (hl:bs.length=512) (hsum:X.length+512≤140737488351232) :
 Calls Tryd.prog 32 #[.pointer (some ⟨g,0,none⟩),.agg (headC h)] w (PutPost w g B v X bs):=by
 unfold headC;obtain ⟨W,hW⟩:∃ W,w.alloc (.cells #[.string (str h.name),.string (str h.link),.int .u8 (h.kind.toNat:Int),.int .i64 h.mode,.int .i64 h.uid,.int .i64 h.gid,.int .i64 h.time,.int .i64 h.size,.bool h.gnu] 47)=W:=⟨_,rfl⟩;have hK:Kept noneB w W:=by rw [← hW];exact (Kept.refl _ w).alloc _
 have hP:=putH_any h hwf hnl hll W;rw [hp] at hP;have HW:=Lib.hid hW;have HK:=Lib.hid hK;have HP:=Lib.hid hP;have HS:=Lib.hid hs;have HL:=Lib.hid hl;clear hW hK hP hs hl hp
 go_enter Tryd.func32,Tryd.ntmps32
 go_wp2_with fail
 rw [show w.alloc (.cells #[.string (str h.name),.string (str h.link),.int .u8 (h.kind.toNat:Int),.int .i64 h.mode,.int .i64 h.uid,.int .i64 h.gid,.int .i64 h.time,.int .i64 h.size,.bool h.gnu] 47)=W from HW.out]
 refine HP.out.mono ?_
 rintro e w2 ⟨hk2,(⟨bs',gx,hr,rfl,hrow,hge⟩ | ⟨hr,_⟩)⟩
 case inr => cases hr
 obtain rfl:bs=bs':=Option.some.inj hr;have hb:=hrow.bat;rw [HL.out] at hb;have HKK:=Lib.hid (HK.out.trans hk2)
 have HX:=Lib.hid (sput1_any w2 g B v X (HS.out.kept HKK.out id (fun _ _ => id)) (Nat.le_trans hB HKK.out.size) (some ⟨gx,0,none⟩) 512 512 bs hb HL.out (fun _ x hx e => by
  cases hx
  have h1:=(HS.out.own.lt _ e).2;have h2:gx < w.heap.size:=h1;have h3:=HK.out.size
  omega) (by omega))
 clear hr hk2 hrow hge hb
 go_wp2_with fail
 refine HX.out.mono ?_
 rintro e w3 h3;obtain ⟨v3,rfl,h4⟩:=put_after HKK.out h3;have H4:=Lib.hid h4;clear h3 h4
 go_wp2
 go_end0
 exact ⟨v3,rfl,H4.out⟩
end Go.Proofs.YtnpkcneojilmkaaDoor.Wr
end
section
namespace Go.Proofs.YtnpkcneojilmkaaDoor.Wr
open Go.ChangeShapes Go.WideShapes Go.ChangeAt Go.RowKit Base Byt Txt Bk Hp Head Rec Attr Mem Block Go.Lib
set_option linter.unusedVariables false
set_option maxRecDepth 100000
theorem recsM_small {m:MemV} (h:GoodM m):(recsM m).length≤5 ∧ ∀ r ∈ recsM m,r.1.length+r.2.length≤1000000000000:=by
 refine ⟨?_,fun r hr => by have:=(mayD_spec (recsM_may h r hr)).2.2.2.2;omega⟩
 have d:∀ (c:Prop) [Decidable c] (k v:List UInt8),(if c then [(k,v)] else []).length≤1:=fun c _ k v => by split<;>simp
 simp only [recsM,List.length_append];have d1:=d (longP m=true) (keyT 4) m.path;have d2:=d (longL m=true) (keyT 5) m.target;have d3:=d (2097151 < m.uid) (keyT 0) (decL m.uid.toNat);have d4:=d (2097151 < m.gid) (keyT 1) (decL m.gid.toNat);have d5:=d (8589934591 < m.time) (keyT 2) (decL m.time.toNat);omega
structure LI (w:World) (g B:Nat) (v:Value) (M:Array Value) (hb:Nat) (h:HeadV) (p:Option Addr) (bs:List UInt8) (wx:World) (v':Value) (Y:List UInt8):Prop where
 laid:Laid w g B v wx v' Y
 mem:Blk wx w.heap.size 26 M
 hd:Blk wx hb 47 (headC h)
 body:BAt wx p bs.length bs
 off:0 < bs.length → ∀ x,p=some x → v'.ownBlock≠some x.block
section
variable {w wx wy:World} {g B hb:Nat} {v v':Value} {M:Array Value} {h:HeadV} {p:Option Addr} {bs Y xs:List UInt8}
theorem LI.after (i:LI w g B v M hb h p bs wx v' Y) (hk:Kept noneB wx wy):LI w g B v M hb h p bs wy v' Y:=
 ⟨i.laid.after hk,i.mem.keptS hk id,i.hd.keptS hk id,i.body.kept hk (fun _ _ _ => id),i.off⟩
theorem LI.step {e:Ending} (i:LI w g B v M hb h p bs wx v' Y) (hg:g < w.heap.size) (hhb:w.heap.size≤hb) (hp:0 < bs.length → ∀ x,p=some x → x.block < w.heap.size∧v.ownBlock≠some x.block) (q:PutPost wx g B v' Y xs e wy) :
 ∃ v'',e=.returned (.tuple #[])∧LI w g B v M hb h p bs wy v'' (Y++xs)∧Kept (putB g v') wx wy∧NewOr wx v' v'':=by
 obtain ⟨v'',he,l,k,nw⟩:=i.laid.step q;refine ⟨v'',he,⟨l,i.laid.blk k i.mem (by decide) (by omega),i.laid.blk k i.hd (by decide) (by omega),i.body.kept k (fun h0 x hx e => ?_),fun h0 x hx e => ?_⟩,k,nw⟩
 ·rcases e with e | e
  ·exact bat_offSnk i.body i.laid.snk h0 x hx e
  ·exact i.off h0 x hx e
 ·rcases l.new _ e with e | e
  ·exact (hp h0 x hx).2 e
  ·have:=(hp h0 x hx).1
   omega
end
def LayCut (w:World) (g B:Nat) (v:Value) (X H:List UInt8) (M:Array Value) (hb:Nat) (m:MemV) (p:Option Addr) (wx:World):Prop:=
 ∃ v' Y,LI w g B v M hb (headM m) p m.body wx v' (X++Y)∧putM m=Y++(H++padB m.body)∧Y.length≤1100000
set_option maxHeartbeats 4000000 in
theorem lay_any (w:World) (g B:Nat) (v:Value) (X:List UInt8) (hs:Snk w g B v X) (hB:B≤w.heap.size) (m:MemV) (p:Option Addr) (c:Nat) (hg:GoodM m) (hb:BAt w p m.body.length m.body)
 (hoff:0 < m.body.length → ∀ x,p=some x → v.ownBlock≠some x.block) (hsum:X.length+4000000≤140737488351232) (hN:Need w) :
 Calls Tryd.prog 14 #[.pointer (some ⟨g,0,none⟩),.agg (memC m p c)] w (PutPost w g B v X (putM m)):=by
 obtain ⟨H,hpH,hlH,hcase⟩:=put_cases hg;obtain ⟨hrl,hrz⟩:=recsM_small hg;have hlm:=linesM_le hg;have hbm:=hg.body;have hglt:=hs.lt
 have hplt:0 < m.body.length → ∀ x,p=some x → x.block < w.heap.size∧v.ownBlock≠some x.block:=fun h0 x hx => ⟨by
  obtain ⟨b,o,he,hbw,_⟩:=hb.cell h0;rw [hx] at he
  cases he
  exact hbw,hoff h0 x hx⟩
 obtain ⟨bl,hbl⟩:∃ bl,m.body.length=bl:=⟨_,rfl⟩;obtain ⟨n,hn⟩:∃ n,(recsM m).length=n:=⟨_,rfl⟩;obtain ⟨W0,hW0⟩:∃ W0,w.alloc (.cells (memC m p c) 26)=W0:=⟨_,rfl⟩;have hK0:Kept noneB w W0:=by rw [← hW0];exact (Kept.refl _ w).alloc _
 have hM0:Blk W0 w.heap.size 26 (memC m p c):=by rw [← hW0];exact Blk.new w _ _
 have hSPL:=split_any m p c W0 hg (hN.below (hK0.below (Nat.le_refl _) (fun _ h => h.elim)))
 have hL0:Laid w g B v W0 v X:=(Laid.start hs).after hK0;have HPH:=Lib.hid (And.intro hpH hlH);have HCASE:=Lib.hid hcase;have HRL:=Lib.hid (And.intro hrl hrz);have HLM:=Lib.hid hlm;have HPLT:=Lib.hid hplt;have HGLT:=Lib.hid hglt;have HK0:=Lib.hid hK0;have HM0:=Lib.hid hM0;have HSPL:=Lib.hid hSPL;have HL0:=Lib.hid hL0;have HN:=Lib.hid hN;have HG:=Lib.hid hg;have HBAT:=Lib.hid hb;have HOFF:=Lib.hid hoff;have HW0:=Lib.hid hW0;have HBL:=Lib.hid hbl;have HNN:=Lib.hid hn;have HBB:=Lib.hid hB;have HBM:=Lib.hid hbm;unfold memC at HSPL HW0 ⊢;rw [hbl] at HSPL HW0 ⊢
 clear hpH hlH hcase hrl hrz hlm hplt hglt hK0 hM0 hSPL hL0 hN hg hb hoff hW0 hbl hn hB hbm hs
 go_enter Tryd.func14,Tryd.ntmps14
 go_wp2_with fail
 rw [HW0.out];refine HSPL.out.mono ?_
 rintro e w1 ⟨q,d,rfl,h1,h2,h3,h4⟩;rw [HNN.out] at h1 h3 ⊢;unfold headC;have HR:=Lib.hid (And.intro h1 (And.intro h2 h3));have HB1:=Lib.hid h4;clear h1 h2 h3 h4
 go_upto_if 15 with fail
 obtain ⟨w2,hw2⟩:∃ w2,w1.alloc (.cells #[.string (str (headM m).name),.string (str (headM m).link),.int .u8 ((headM m).kind.toNat:Int),.int .i64 (headM m).mode,.int .i64 (headM m).uid,.int .i64 (headM m).gid,.int .i64 (headM m).time,.int .i64 (headM m).size,.bool (headM m).gnu] 47)=w2:=⟨_,rfl⟩;have hk12:Kept noneB w1 w2:=by rw [← hw2];exact (Kept.refl _ w1).alloc _
 have hh2:Blk w2 w1.heap.size 47 (headC (headM m)):=by rw [← hw2];exact Blk.new w1 _ _
 have hk01:=Kept.of_below HB1.out noneB;have HSZ:Hid (w.heap.size≤w1.heap.size):=Lib.hid (Nat.le_trans HK0.out.size HB1.out.size);have HB2:Hid (Below w.heap.size w w2):=Lib.hid ((HK0.out.trans (hk01.trans hk12)).below (Nat.le_refl _) (fun _ h => h.elim))
 have HI2:Hid (LI w g B v (memC m p c) w1.heap.size (headM m) p m.body w2 v X):=Lib.hid ⟨(HL0.out.after hk01).after hk12,(HM0.out.keptS hk01 id).keptS hk12 id,hh2,HBAT.out.kept (HK0.out.trans (hk01.trans hk12)) (fun _ _ _ => id),HOFF.out⟩
 have HR2:Hid (RecsAt w2 q n (recsM m)):=Lib.hid (HR.out.2.2.below (hk12.below (Nat.le_refl _) (fun _ h => h.elim)))
 have HN2:=Lib.hid (HN.out.below HB2.out);rw [hw2];clear hw2 hk12 hh2 hk01
 go_cut [6] (fun _ wx => LayCut w g B v X H (memC m p c) w1.heap.size m p wx)
 case first =>
  rcases HCASE.out with ⟨hr,he⟩ | ⟨hr,Xh,x1,x2,he⟩
  ·have hz:¬ (0:Int) < (n:Int):=by have:=HNN.out;rw [hr] at this;simp at this;omega
   have HE:=Lib.hid he;clear hr he
   go_wp2
   go_meet
   exact ⟨v,[],by rw [List.append_nil];exact HI2.out,by rw [List.nil_append];exact HE.out,by simp⟩
  ·have hz:(0:Int) < (n:Int):=by
    have:=List.length_pos_iff.2 hr;rw [HNN.out] at this;omega
   have HE:=Lib.hid he;have HX1:=Lib.hid (And.intro x1 x2);clear hr he x1 x2
   go_wp2_with fail
   refine (recPut_own q n d (recsM m) w2 (by have:=HRL.out.1;rw [HNN.out] at this;omega) HR2.out HRL.out.2 HN2.out).mono ?_
   rintro e w3 ⟨hy,_,hb3⟩;obtain ⟨p3,c3,rfl,h31,h32,h33,h34⟩:=hy (recsM_may HG.out);obtain ⟨L,hL⟩:∃ L,(linesD (recsM m)).length=L:=⟨_,rfl⟩;have HLL:=Lib.hid hL;rw [hL] at h31 h33 HX1 HLM ⊢;have HP3:=Lib.hid (And.intro h33 h34);have HI3:=Lib.hid (HI2.out.after (Kept.of_below hb3 noneB));have HS3:Hid (w2.heap.size≤w3.heap.size):=Lib.hid hb3.size;have HB3:=Lib.hid (HB2.out.trans (hb3.mono HB2.out.size))
   have hH:Calls Tryd.prog 32 #[.pointer (some ⟨g,0,none⟩),.agg #[.string ⟨#[64,112,97,120]⟩,.string ⟨#[]⟩,.int .u8 120,.int .i64 0,.int .i64 0,.int .i64 0,.int .i64 0,.int .i64 (L:Int),.bool false]] w3 (PutPost w3 g B v X Xh):=
    layHead_any w3 g B v X HI3.out.laid.snk (Nat.le_trans HBB.out HB3.out.size) (paxH L) (paxH_wf HLM.out) (by show (4:Nat)≤_;decide) (by show (0:Nat)≤_;decide) Xh HX1.out.1 HX1.out.2 (by omega)
   have HH:=Lib.hid hH;clear hy hb3 hL h31 h32 h33 h34 hH
   go_wp2_with fail
   refine HH.out.mono ?_
   rintro e w4 h4;obtain ⟨v4,rfl,i4,k4,n4⟩:=HI3.out.step HGLT.out HSZ.out HPLT.out h4
   have hb4:BAt w4 p3 L (linesD (recsM m)):=HP3.out.1.kept k4 (fun h0 x hx e => by
    rcases e with e | e
    ·exact bat_offSnk HP3.out.1 HI3.out.laid.snk h0 x hx e
    ·have a1:=(HL0.out.snk.own.lt _ e).2
     have a2:=HP3.out.2 x hx;have a3:=HK0.out.size;have a4:=HB2.out.size;have a5:=HB1.out.size;have a6:=(HI2.out.laid.snk.own.lt _ e).2
     omega)
   have ho4:0 < L → ∀ x,p3=some x → v4.ownBlock≠some x.block:=fun h0 x hx e => by
    have a2:=HP3.out.2 x hx;obtain ⟨b,o,he,hbw,_⟩:=HP3.out.1.cell h0;rw [hx] at he
    cases he
    rcases n4 _ e with e | e
    ·have a6:=(HI2.out.laid.snk.own.lt _ e).2
     change w2.heap.size≤b at a2;change b < w2.heap.size at a6;omega
    ·change w3.heap.size≤b at e
     omega
   have HB4:=Lib.hid hb4;have HO4:=Lib.hid ho4;have HI4:=Lib.hid i4;have HS4:Hid (w3.heap.size≤w4.heap.size):=Lib.hid k4.size;clear h4 i4 k4 n4 hb4 ho4
   go_wp2_with fail
   refine (sbody_any w4 g B v4 (X++Xh) HI4.out.laid.snk (by have:=HBB.out;have:=HB3.out.size;have:=HS4.out;omega) p3 L c3 (linesD (recsM m)) HB4.out HLL.out HO4.out (by rw [List.length_append,HX1.out.2];have:=padN_le L;have:=HLM.out;omega)).mono ?_
   rintro e w5 h5;obtain ⟨v5,rfl,i5,_,_⟩:=HI4.out.step HGLT.out HSZ.out HPLT.out h5
   have HI5:Hid (LI w g B v (memC m p c) w1.heap.size (headM m) p m.body w5 v5 (X++(Xh++padB (linesD (recsM m))))):=Lib.hid (by
    rw [padB_is,HLL.out,← List.append_assoc]
    exact i5)
   clear h5 i5
   go_wp2
   go_meet
   refine ⟨v5,_,HI5.out,by rw [HE.out],?_⟩
   rw [List.length_append,padB_length,HX1.out.2,HLL.out];have:=(blocks_ge L).2;have:=HLM.out;omega
 case rest =>
  obtain ⟨v6,Y,i6,he,hy⟩:=hcut;have b9:=i6.hd;have z0:=b9.cell 0;have z1:=b9.cell 1;have z2:=b9.cell 2;have z3:=b9.cell 3;have z4:=b9.cell 4;have z5:=b9.cell 5;have z6:=b9.cell 6;have z7:=b9.cell 7;have z8:=b9.cell 8;simp only [headC,List.getElem?_toArray,List.getElem?_cons_zero,List.getElem?_cons_succ] at z0 z1 z2 z3 z4 z5 z6 z7 z8;have HI6:=Lib.hid i6;have HE:=Lib.hid he;have HYL:=Lib.hid hy;have HBC:Hid (B≤wc.heap.size):=Lib.hid (Nat.le_trans HBB.out i6.laid.kept.size);have hH:=layHead_any wc g B v6 (X++Y) i6.laid.snk HBC.out (headM m) (headM_wf HG.out) (headM_tx HG.out).1 (headM_tx HG.out).2 H HPH.out.1 HPH.out.2 (by rw [List.length_append];omega)
  unfold headC at hH;have HH:=Lib.hid hH;clear b9 i6 he hy hH
  go_wp2_with fail
  refine HH.out.mono ?_
  rintro e w7 h7;obtain ⟨v7,rfl,i7,k7,_⟩:=HI6.out.step HGLT.out HSZ.out HPLT.out h7;have y7:=i7.mem.cell 7;simp only [memC,List.getElem?_toArray,List.getElem?_cons_zero,List.getElem?_cons_succ] at y7;rw [HBL.out] at y7;have hbt:=i7.body;have hof:=i7.off;rw [HBL.out] at hbt hof;have HBT:=Lib.hid hbt;have HOF:=Lib.hid hof;have HI7:=Lib.hid i7;have HS7:Hid (wc.heap.size≤w7.heap.size):=Lib.hid k7.size;clear h7 i7 k7 z0 z1 z2 z3 z4 z5 z6 z7 z8 hbt hof
  go_wp2_with fail
  refine (sbody_any w7 g B v7 (X++Y++H) HI7.out.laid.snk (Nat.le_trans HBC.out HS7.out) p bl c m.body HBT.out HBL.out HOF.out (by rw [List.length_append,List.length_append,HPH.out.2];have:=padN_le bl;have:=HBM.out;have:=HBL.out;have:=HYL.out;omega)).mono ?_
  rintro e w8 h8;obtain ⟨v8,rfl,i8,_,_⟩:=HI7.out.step HGLT.out HSZ.out HPLT.out h8
  have HF:Hid (Laid w g B v w8 v8 (X++putM m)):=Lib.hid (by
   have:=i8.laid;rw [HE.out,padB_is,HBL.out];rw [show X++(Y++(H++(m.body++zerosTo bl)))=X++Y++H++(m.body++zerosTo bl) by simp only [List.append_assoc]]
   exact this)
  clear h8 i8 y7
  go_wp2
  go_end0
  exact ⟨v8,rfl,HF.out.snk,HF.out.kept,HF.out.new⟩
end Go.Proofs.YtnpkcneojilmkaaDoor.Wr
end
section
namespace Go.Proofs.YtnpkcneojilmkaaDoor.Wr
open Go.ChangeShapes Go.WideShapes Go.ChangeAt Go.RowKit Base Byt Txt Bk Hp Head Rec Attr Mem Block Go.Lib
set_option linter.unusedVariables false
set_option maxRecDepth 100000
theorem snk_made (w:World) (B:Nat):Snk (w.alloc (.cells #[.slice none 0 0] 40)) w.heap.size B (.slice none 0 0) []:=
 ⟨Blk.new w _ _,World.ownsRow_nil _ _ _ _⟩
theorem putB_nil {g k:Nat} (h:putB g (.slice none 0 0) k):k=g:=by
 rcases h with h | h
 ·exact h
 ·cases h
def BytesPost (w:World) (bs:List UInt8) (e:Ending) (w':World):Prop:=∃ v,e=.returned (.tuple #[v,.int .i64 0])∧OwnB w' w.heap.size v bs.length bs∧Below w.heap.size w w'
def NonePost (w:World) (n:Int) (e:Ending) (w':World):Prop:=e=.returned (.tuple #[.slice none 0 0,.int .i64 n])∧Below w.heap.size w w'
theorem putM_le {m:MemV} (h:GoodM m):(putM m).length≤3000000:=by
 have hb:=(blocks_ge m.body.length).2;have hl:=(blocks_ge (linesD (recsM m)).length).2;have hq:=linesM_le h;have hq2:=h.body;obtain ⟨H,_,h2,_,(⟨_,e⟩ | ⟨X,_,x2,_,e⟩)⟩:=put_laid h
 ·rw [e,List.length_append,padB_length,h2];omega
 ·rw [e,List.length_append,List.length_append,List.length_append,padB_length,padB_length,h2,x2];omega
set_option maxHeartbeats 1000000 in
theorem wput_no (m:MemV) (p:Option Addr) (c:Nat) (w:World) (h1:m.path.length≤1000000000000) (h2:m.target.length≤1000000000000) (hg:goodD m=false) (hN:Need w) :
 Calls Tryd.prog 8 #[.agg (memC m p c)] w (NonePost w 1):=by
 obtain ⟨W0,hW0⟩:∃ W0,w.alloc (.cells (memC m p c) 26)=W0:=⟨_,rfl⟩;have hB0:Below w.heap.size w W0:=by rw [← hW0];exact (Below.refl _ _).alloc (Nat.le_refl _) _
 have hG:=memGood_any m p c W0 h1 h2 (hN.below hB0).tabs;rw [hg] at hG;have HB0:=Lib.hid hB0;have HW0:=Lib.hid hW0;have HG:=Lib.hid hG;unfold memC at HW0 HG ⊢;clear hB0 hW0 hG hg
 go_enter Tryd.func8,Tryd.ntmps8
 go_wp2_with fail
 rw [HW0.out];refine HG.out.mono ?_
 rintro e w1 ⟨rfl,hb1⟩;have FIN:=Lib.hid (HB0.out.trans (hb1.mono HB0.out.size));clear hb1
 go_wp2
 go_ret2
 exact ⟨rfl,FIN.out⟩
set_option maxHeartbeats 2000000 in
theorem wput_yes (m:MemV) (p:Option Addr) (c:Nat) (w:World) (hg:goodD m=true) (hb:BAt w p m.body.length m.body) (hN:Need w) :
 Calls Tryd.prog 8 #[.agg (memC m p c)] w (BytesPost w (putM m)):=by
 have hgm:=good_facts hg;have hpl:=hgm.pathL;have htl:=hgm.targL;obtain ⟨W0,hW0⟩:∃ W0,w.alloc (.cells (memC m p c) 26)=W0:=⟨_,rfl⟩;have hB0:Below w.heap.size w W0:=by rw [← hW0];exact (Below.refl _ _).alloc (Nat.le_refl _) _
 have hM0:Blk W0 w.heap.size 26 (memC m p c):=by rw [← hW0];exact Blk.new w _ _
 have hG:=memGood_any m p c W0 (by omega) (by omega) (hN.below hB0).tabs
 rw [hg] at hG;obtain ⟨bl,hbl⟩:∃ bl,m.body.length=bl:=⟨_,rfl⟩;have HB0:=Lib.hid hB0;have HW0:=Lib.hid hW0;have HG:=Lib.hid hG;have HM0:=Lib.hid hM0;have HGM:=Lib.hid hgm;have HN:=Lib.hid hN;have HBT:=Lib.hid hb;have HBL:=Lib.hid hbl;unfold memC at HW0 HG ⊢;rw [hbl] at HW0 HG ⊢;clear hB0 hW0 hG hg hM0 hgm hN hb hpl htl hbl
 go_enter Tryd.func8,Tryd.ntmps8
 go_wp2_with fail
 rw [HW0.out];refine HG.out.mono ?_
 rintro e w1 ⟨rfl,hb1⟩;have HB1:=Lib.hid (HB0.out.trans (hb1.mono HB0.out.size));have HM1:=Lib.hid (HM0.out.below hb1 HM0.out.lt);clear hb1;obtain ⟨w2,hw2⟩:∃ w2,w1.alloc (.cells #[.slice none 0 0] 40)=w2:=⟨_,rfl⟩;have hs2:Snk w2 w1.heap.size w.heap.size (.slice none 0 0) []:=by rw [← hw2];exact snk_made w1 _
 have hb12:Below w1.heap.size w1 w2:=by rw [← hw2];exact (Below.refl _ _).alloc (Nat.le_refl _) _
 have HS2:=Lib.hid hs2;have HB2:=Lib.hid (HB1.out.trans (hb12.mono HB1.out.size));have hm2:=HM1.out.below hb12 HM1.out.lt;have HW2:=Lib.hid hw2;have hL:=lay_any w2 w1.heap.size w.heap.size (.slice none 0 0) [] HS2.out HB2.out.size m p c HGM.out (HBT.out.below HB2.out) (fun _ _ _ e => by cases e) (by simp) (HN.out.below HB2.out)
 unfold memC at hL hm2;rw [HBL.out] at hL hm2;have y0:=hm2.cell 0;have y1:=hm2.cell 1;have y2:=hm2.cell 2;have y3:=hm2.cell 3;have y4:=hm2.cell 4;have y5:=hm2.cell 5;have y6:=hm2.cell 6;have y7:=hm2.cell 7;simp only [List.getElem?_toArray,List.getElem?_cons_zero,List.getElem?_cons_succ] at y0 y1 y2 y3 y4 y5 y6 y7;have HLY:=Lib.hid hL;clear hs2 hb12 hw2 hL hm2
 go_upto_region 4 with fail
 rw [HW2.out]
 go_wp2_with fail
 refine HLY.out.mono ?_
 rintro e w3 ⟨v3,rfl,hs3,hk3,_⟩;rw [List.nil_append] at hs3;have HB3:Hid (Below w.heap.size w w3):=Lib.hid (HB2.out.trans (hk3.below HB2.out.size (fun k hk => by rw [putB_nil hk];exact HB1.out.size)))
 have HO:=Lib.hid (out_any w3 w1.heap.size w.heap.size v3 (putM m) hs3 (by have:=putM_le HGM.out;omega))
 clear hs3 hk3 y0 y1 y2 y3 y4 y5 y6 y7
 go_wp2_with fail
 refine HO.out.mono ?_
 rintro e w4 ⟨v4,rfl,ho4,hk4⟩;have FIN:Hid (OwnB w4 w.heap.size v4 (putM m).length (putM m)∧Below w.heap.size w w4):=Lib.hid ⟨ho4.mono HB3.out.size,HB3.out.trans (hk4.below HB3.out.size (fun _ h => h.elim))⟩
 clear ho4 hk4
 go_wp2
 go_ret2
 exact ⟨v4,rfl,FIN.out⟩
end Go.Proofs.YtnpkcneojilmkaaDoor.Wr
end
section
namespace Go.Proofs.YtnpkcneojilmkaaDoor.Head
open Go.ChangeShapes Go.WideShapes Go.ChangeAt Go.RowKit Base Byt Txt Hp Go.Proofs.YtnpkcneojilmkaaDoor.Mp Fp Go.Proofs.YtnpkcneojilmkaaDoor.Field Go.Lib
set_option linter.unusedVariables false
set_option maxRecDepth 100000
def PutS (r:Option (List Int)) (v:Value) (y:Bool) (w:World):Prop:=
 (∃ l p c,r=some l∧y=true∧v=.slice p l.length c∧l.length≤c∧BAt w p l.length (bytesOf l)) ∨ (r=none∧y=false∧v=.slice none 0 0)
theorem rput_s (n wide:Int) (w:World) (w0:(Lit.int .i64 n).wf=true) (w1:(Lit.int .i64 wide).wf=true) :
 Calls Tryd.prog 37 #[.int .i64 n,.int .i64 wide] w fun e w' => ∃ v y,e=.returned (.tuple #[v,.bool y])∧PutS (putF n wide) v y w'∧Kept noneB w w':=by
 refine (rput_any n wide w w0 w1).mono ?_
 rintro e w' ⟨hb,(⟨l,v,hl,rfl,hown⟩ | ⟨hl,rfl⟩)⟩
 ·obtain ⟨p,c,rfl,hc,_,hbat,_⟩:=bat_of_own hown (putF_bd hl)
  exact ⟨_,true,rfl,Or.inl ⟨l,p,c,hl,rfl,rfl,hc,hbat⟩,Kept.of_below hb _⟩
 ·exact ⟨_,false,rfl,Or.inr ⟨hl,rfl,rfl⟩,Kept.of_below hb _⟩
noncomputable def rputOps:Array Oper:=regionAt Tryd.f23 18
def pV2 (A C:Value) (k:Int) (pa pc:Addr) (x z:Int) (vy:Value × Bool):Nat → Value
 | 0 => A | 1 => .int .i64 k | 2 => .pointer (some pa) | 3 => .int .i64 x | 4 => C | 5 => .int .i64 k | 6 => .pointer (some pc) | 7 => .int .i64 z | 8 => .tuple #[vy.1,.bool vy.2] | 9 => .tuple #[vy.1,.bool vy.2] | 10 => vy.1 | 11 => .bool vy.2 | 12 => vy.1 | 13 => .bool vy.2 | _ => undef
theorem rput_size:rputOps.size=14:=rfl
theorem rput_apart:apartG rputOps 152=true:=by kernel_rfl
theorem tdst0:dstAt rputOps 0=some 95:=rfl
theorem top0:∃ o,rputOps[0]? = some o∧o.op=.move (.tmp 10)∧o.dst=some 95:=⟨_,rfl,rfl,rfl⟩
theorem tdst1:dstAt rputOps 1=some 96:=rfl
theorem top1:∃ o,rputOps[1]? = some o∧o.op=.move (.tmp 13)∧o.dst=some 96:=⟨_,rfl,rfl,rfl⟩
theorem tdst2:dstAt rputOps 2=some 97:=rfl
theorem top2:∃ o,rputOps[2]? = some o∧o.op=.indexAddr 69 (.tmp 95) (.tmp 96)∧o.dst=some 97:=⟨_,rfl,rfl,rfl⟩
theorem tdst3:dstAt rputOps 3=some 98:=rfl
theorem top3:∃ o,rputOps[3]? = some o∧o.op=.load 3 (.tmp 97)∧o.dst=some 98:=⟨_,rfl,rfl,rfl⟩
theorem tdst4:dstAt rputOps 4=some 99:=rfl
theorem top4:∃ o,rputOps[4]? = some o∧o.op=.move (.tmp 12)∧o.dst=some 99:=⟨_,rfl,rfl,rfl⟩
theorem tdst5:dstAt rputOps 5=some 100:=rfl
theorem top5:∃ o,rputOps[5]? = some o∧o.op=.move (.tmp 13)∧o.dst=some 100:=⟨_,rfl,rfl,rfl⟩
theorem tdst6:dstAt rputOps 6=some 101:=rfl
theorem top6:∃ o,rputOps[6]? = some o∧o.op=.indexAddr 69 (.tmp 99) (.tmp 100)∧o.dst=some 101:=⟨_,rfl,rfl,rfl⟩
theorem tdst7:dstAt rputOps 7=some 102:=rfl
theorem top7:∃ o,rputOps[7]? = some o∧o.op=.load 3 (.tmp 101)∧o.dst=some 102:=⟨_,rfl,rfl,rfl⟩
theorem tdst8:dstAt rputOps 8=some 103:=rfl
theorem top8:∃ o,rputOps[8]? = some o∧o.op=.call { callee:=.value (.func 37),args:=#[.tmp 98,.tmp 102],argTypes:=#[3,3] }∧o.dst=some 103:=⟨_,rfl,rfl,rfl⟩
theorem tdst9:dstAt rputOps 9=some 94:=rfl
theorem top9:∃ o,rputOps[9]? = some o∧o.op=.move (.tmp 103)∧o.dst=some 94:=⟨_,rfl,rfl,rfl⟩
theorem tdst10:dstAt rputOps 10=some 104:=rfl
theorem top10:∃ o,rputOps[10]? = some o∧o.op=.extract (.tmp 94) 0∧o.dst=some 104:=⟨_,rfl,rfl,rfl⟩
theorem tdst11:dstAt rputOps 11=some 105:=rfl
theorem top11:∃ o,rputOps[11]? = some o∧o.op=.extract (.tmp 94) 1∧o.dst=some 105:=⟨_,rfl,rfl,rfl⟩
theorem tdst12:dstAt rputOps 12=some 14:=rfl
theorem top12:∃ o,rputOps[12]? = some o∧o.op=.assign (.tmp 104)∧o.dst=some 14:=⟨_,rfl,rfl,rfl⟩
theorem tdst13:dstAt rputOps 13=some 15:=rfl
theorem top13:∃ o,rputOps[13]? = some o∧o.op=.assign (.tmp 105)∧o.dst=some 15:=⟨_,rfl,rfl,rfl⟩
theorem rput_behind:∀ j,8 < j → j < 14 → hasDep rputOps j 8=true ∨ hasDep rputOps j 9=true ∨ hasDep rputOps j 10=true ∨ hasDep rputOps j 11=true:=by
 intro j h1 h2;rcases (show j=9 ∨ j=10 ∨ j=11 ∨ j=12 ∨ j=13 by omega) with rfl | rfl | rfl | rfl | rfl
 ·exact Or.inl (by kernel_rfl)
 ·exact Or.inr (Or.inl (by kernel_rfl))
 ·exact Or.inr (Or.inl (by kernel_rfl))
 ·exact Or.inr (Or.inr (Or.inl (by kernel_rfl)))
 ·exact Or.inr (Or.inr (Or.inr (by kernel_rfl)))
set_option maxHeartbeats 1000000 in
theorem rput_region {Q':Exit → Act → World → Prop} {a0:Act} {w3:World} (A C:Value) (k:Int) (pa pc:Addr) (x z:Int) (R:Value → Bool → World → Prop)
 (hsz:152≤a0.tmps.size) (h10:a0.eval (.tmp 10)=A) (h12:a0.eval (.tmp 12)=C) (h13:a0.eval (.tmp 13)=.int .i64 k)
 (hia:∀ w,(Instr.indexAt 69 A (.int .i64 k)).run Tryd.prog w=.ok (.pointer (some pa)) w)
 (hic:∀ w,(Instr.indexAt 69 C (.int .i64 k)).run Tryd.prog w=.ok (.pointer (some pc)) w)
 (hla:∀ w,Kept noneB w3 w → (Instr.loadAt 3 (.pointer (some pa))).run Tryd.prog w=.ok (.int .i64 x) w)
 (hlc:∀ w,Kept noneB w3 w → (Instr.loadAt 3 (.pointer (some pc))).run Tryd.prog w=.ok (.int .i64 z) w)
 (hcall:∀ w,Kept noneB w3 w → Calls Tryd.prog 37 #[.int .i64 x,.int .i64 z] w fun e w' => ∃ v y,e=.returned (.tuple #[v,.bool y])∧R v y w'∧Kept noneB w w')
 (hQ:∀ v y w',R v y w' → Kept noneB w3 w' → Q' .normal ((((((((((((((a0.put (some 95) (A)).put (some 96) (.int .i64 k)).put (some 97) (.pointer (some pa))).put (some 98) (.int .i64 x)).put (some 99) (C)).put (some 100) (.int .i64 k)).put (some 101) (.pointer (some pc))).put (some 102) (.int .i64 z)).put (some 103) (.tuple #[v,.bool y])).put (some 94) (.tuple #[v,.bool y])).put (some 104) (v)).put (some 105) (.bool y)).put (some 14) (v)).put (some 15) (.bool y)) w') :
 wpAny Tryd.prog .any rputOps Q' rputOps.size (Array.replicate rputOps.size false) a0 w3.drew:=by
 have no:∀ j,(Array.replicate rputOps.size false).getD j false=false:=fun j => by
  rw [Array.getD_eq_getD_getElem?,Array.getElem?_replicate]
  split<;>rfl
 refine wpAny_ghost (Γ:=Value × Bool) (pV2 A C k pa pc x z) (undef,false) a0 (fun vy listed w => Kept noneB w3 w∧(listed.getD 8 false=true → R vy.1 vy.2 w)∧(∀ j,8 < j → j < 14 → listed.getD j false=true → listed.getD 8 false=true)) 152 rput_apart hsz ?_ ?_
  ⟨(Kept.refl _ w3).drew,fun h => (by rw [no] at h;cases h),fun j _ _ h => (by rw [no] at h;cases h)⟩
 ·intro vy listed a w j o h ho hun hdep
  have hlt:=lt_of_unlisted hun;obtain ⟨hk,hh1,hh2⟩:=h.wd
  have hj14:j < 14:=by
   have:=(Array.getElem?_eq_some_iff.1 ho).1
   rwa [rput_size] at this
  have keep:j≠8 → ∃ γ',(∀ i,listed.getD i false=true → pV2 A C k pa pc x z γ' i=pV2 A C k pa pc x z vy i)∧a.put o.dst (pV2 A C k pa pc x z vy j)=a.put o.dst (pV2 A C k pa pc x z γ' j)∧(Kept noneB w3 w∧((listed.setIfInBounds j true).getD 8 false=true → R γ'.1 γ'.2 w)∧(∀ j',8 < j' → j' < 14 → (listed.setIfInBounds j true).getD j' false=true → (listed.setIfInBounds j true).getD 8 false=true)):=fun hj => by
   refine ⟨vy,fun _ _ => rfl,rfl,hk,?_,fun j' h1 h2 h3 => ?_⟩
   ·rw [listed_get hlt,if_neg (Ne.symm hj)]
    exact hh1
   ·rw [listed_get hlt,if_neg (Ne.symm hj)]
    rw [listed_get hlt] at h3
    by_cases hjj:j'=j
    ·subst hjj
     rcases rput_behind j' h1 h2 with hd | hd | hd | hd
     ·exact dep_listed ho hdep hd
     ·exact hh2 9 (by omega) (by omega) (dep_listed ho hdep hd)
     ·exact hh2 10 (by omega) (by omega) (dep_listed ho hdep hd)
     ·exact hh2 11 (by omega) (by omega) (dep_listed ho hdep hd)
    ·rw [if_neg hjj] at h3
     exact hh2 j' h1 h2 h3
  have same:∀ {j':Nat} {o':Oper},rputOps[j']? = some o' → j=j' → o'=o:=fun {j' o'} h' e => by subst e;exact Option.some.inj (h'.symm.trans ho)
  rcases (show j=0 ∨ j=1 ∨ j=2 ∨ j=3 ∨ j=4 ∨ j=5 ∨ j=6 ∨ j=7 ∨ j=8 ∨ j=9 ∨ j=10 ∨ j=11 ∨ j=12 ∨ j=13 by omega) with rfl | rfl | rfl | rfl | rfl | rfl | rfl | rfl | rfl | rfl | rfl | rfl | rfl | rfl
  ·obtain ⟨o',ho',hop,hdst⟩:=top0
   obtain rfl:=same ho' rfl;exact wp_move _ _ (Or.inl hop) ((h.old (t:=10) (by kernel_rfl)).trans h10) (keep (by decide))
  ·obtain ⟨o',ho',hop,hdst⟩:=top1
   obtain rfl:=same ho' rfl;exact wp_move _ _ (Or.inl hop) ((h.old (t:=13) (by kernel_rfl)).trans h13) (keep (by decide))
  ·obtain ⟨o',ho',hop,hdst⟩:=top2
   obtain rfl:=same ho' rfl;have e0:a.eval (.tmp 95)=A:=(h.get ho hdep (i:=0) (d:=95) (by kernel_rfl) rfl)
   have e1:a.eval (.tmp 96)=.int .i64 k:=(h.get ho hdep (i:=1) (d:=96) (by kernel_rfl) rfl)
   refine wp_run _ ?_ (keep (by decide))
   have q:=hia w;simp [execOp,hop,e0,e1,q,Result.andThen,pV2]
  ·obtain ⟨o',ho',hop,hdst⟩:=top3
   obtain rfl:=same ho' rfl;have e:a.eval (.tmp 97)=.pointer (some pa):=(h.get ho hdep (i:=2) (d:=97) (by kernel_rfl) rfl)
   refine wp_run _ ?_ (keep (by decide))
   have q:=hla w hk;simp [execOp,hop,e,q,Result.andThen,pV2]
  ·obtain ⟨o',ho',hop,hdst⟩:=top4
   obtain rfl:=same ho' rfl;exact wp_move _ _ (Or.inl hop) ((h.old (t:=12) (by kernel_rfl)).trans h12) (keep (by decide))
  ·obtain ⟨o',ho',hop,hdst⟩:=top5
   obtain rfl:=same ho' rfl;exact wp_move _ _ (Or.inl hop) ((h.old (t:=13) (by kernel_rfl)).trans h13) (keep (by decide))
  ·obtain ⟨o',ho',hop,hdst⟩:=top6
   obtain rfl:=same ho' rfl;have e0:a.eval (.tmp 99)=C:=(h.get ho hdep (i:=4) (d:=99) (by kernel_rfl) rfl)
   have e1:a.eval (.tmp 100)=.int .i64 k:=(h.get ho hdep (i:=5) (d:=100) (by kernel_rfl) rfl)
   refine wp_run _ ?_ (keep (by decide))
   have q:=hic w;simp [execOp,hop,e0,e1,q,Result.andThen,pV2]
  ·obtain ⟨o',ho',hop,hdst⟩:=top7
   obtain rfl:=same ho' rfl;have e:a.eval (.tmp 101)=.pointer (some pc):=(h.get ho hdep (i:=6) (d:=101) (by kernel_rfl) rfl)
   refine wp_run _ ?_ (keep (by decide))
   have q:=hlc w hk;simp [execOp,hop,e,q,Result.andThen,pV2]
  ·obtain ⟨o',ho',hop,hdst⟩:=top8
   obtain rfl:=same ho' rfl;have e0:a.eval (.tmp 98)=.int .i64 x:=(h.get ho hdep (i:=3) (d:=98) (by kernel_rfl) rfl)
   have e1:a.eval (.tmp 102)=.int .i64 z:=(h.get ho hdep (i:=7) (d:=102) (by kernel_rfl) rfl)
   have hno:∀ j',8 < j' → j' < 14 → listed.getD j' false=true → False:=fun j' h1 h2 h3 => by
    have h4:=hh2 j' h1 h2 h3;rw [getD_flip hun] at h4
    cases h4
   refine wp_callE _ _ _ hop #[.int .i64 x,.int .i64 z] (by simp [e0,e1]) (enters_of Tryd.func37 (by kernel_rfl) rfl) (fun v w' => ∃ u y,v=.tuple #[u,.bool y]∧R u y w'∧Kept noneB w w') ((hcall w hk).mono fun e w' ⟨u,y,he,hr,hk'⟩ => ⟨_,he,u,y,rfl,hr,hk'⟩) (fun v w' ⟨u,y,hv,hr,hk'⟩ => ⟨(u,y),fun i hi => ?_,by rw [hv];rfl,hk.trans hk',fun _ => hr,fun j' h1 h2 h3 => by rw [listed_get hlt,if_pos rfl]⟩)
   have hi8:i < 8:=by
    rcases Nat.lt_trichotomy i 8 with h1 | h1 | h1
    ·exact h1
    ·rw [h1,getD_flip hun] at hi;cases hi
    ·by_cases h2:i < 14
     ·exact (hno i h1 h2 hi).elim
     ·exfalso
      have hs:=h.ls;rw [rput_size] at hs;rw [Array.getD_eq_getD_getElem?,Array.getElem?_eq_none (by omega)] at hi
      cases hi
   rcases (show i=0 ∨ i=1 ∨ i=2 ∨ i=3 ∨ i=4 ∨ i=5 ∨ i=6 ∨ i=7 by omega) with rfl | rfl | rfl | rfl | rfl | rfl | rfl | rfl<;>rfl
  ·obtain ⟨o',ho',hop,hdst⟩:=top9
   obtain rfl:=same ho' rfl;have e:a.eval (.tmp 103)=.tuple #[vy.1,.bool vy.2]:=(h.get ho hdep (i:=8) (d:=103) (by kernel_rfl) rfl)
   exact wp_move _ _ (Or.inl hop) e (keep (by decide))
  ·obtain ⟨o',ho',hop,hdst⟩:=top10
   obtain rfl:=same ho' rfl;have e:a.eval (.tmp 94)=.tuple #[vy.1,.bool vy.2]:=(h.get ho hdep (i:=9) (d:=94) (by kernel_rfl) rfl)
   refine wp_run _ ?_ (keep (by decide))
   generalize a.eval=ev at e ⊢;simp [go_sem,execOp,hop,e,pV2]
  ·obtain ⟨o',ho',hop,hdst⟩:=top11
   obtain rfl:=same ho' rfl;have e:a.eval (.tmp 94)=.tuple #[vy.1,.bool vy.2]:=(h.get ho hdep (i:=9) (d:=94) (by kernel_rfl) rfl)
   refine wp_run _ ?_ (keep (by decide))
   generalize a.eval=ev at e ⊢;simp [go_sem,execOp,hop,e,pV2]
  ·obtain ⟨o',ho',hop,hdst⟩:=top12
   obtain rfl:=same ho' rfl;have e:a.eval (.tmp 104)=vy.1:=(h.get ho hdep (i:=10) (d:=104) (by kernel_rfl) rfl)
   exact wp_move _ _ (Or.inr hop) e (keep (by decide))
  ·obtain ⟨o',ho',hop,hdst⟩:=top13
   obtain rfl:=same ho' rfl;have e:a.eval (.tmp 105)=.bool vy.2:=(h.get ho hdep (i:=11) (d:=105) (by kernel_rfl) rfl)
   exact wp_move _ _ (Or.inr hop) e (keep (by decide))
 ·intro vy listed a w h hall
  obtain ⟨v,y⟩:=vy;obtain ⟨hk,hh,_⟩:=h.wd;have hR:=hh (hall 8 (by rw [rput_size];omega))
  rw [done_putAllG 152 rput_apart hsz h hall,rput_size];simp only [putAll,tdst0,tdst1,tdst2,tdst3,tdst4,tdst5,tdst6,tdst7,tdst8,tdst9,tdst10,tdst11,tdst12,tdst13];exact hQ v y w hR hk
end Go.Proofs.YtnpkcneojilmkaaDoor.Head
end
section
namespace Go.Proofs.YtnpkcneojilmkaaDoor.Head
open Go.ChangeShapes Go.WideShapes Go.ChangeAt Go.RowKit Base Byt Txt Hp Go.Proofs.YtnpkcneojilmkaaDoor.Mp Fp Go.Proofs.YtnpkcneojilmkaaDoor.Field Go.Lib
set_option linter.unusedVariables false
set_option maxRecDepth 100000
def noZ (l:List UInt8) (k:Nat):Bool:=!(l.take k).contains 0
theorem noZ_zero (l:List UInt8):noZ l 0=true:=rfl
theorem noZ_succ {l:List UInt8} {k:Nat} (hk:k < l.length):noZ l (k+1)=(noZ l k && l.getD k 0 != 0):=by
 unfold noZ;rw [List.take_add_one,List.getElem?_eq_getElem hk];have e:l.getD k 0=l[k]:=by simp [List.getD,hk]
 rw [e];simp only [Option.toList_some,List.contains_append,Bool.not_or]
 congr 1
 simp only [List.contains_cons,List.contains_nil,Bool.or_false,bne];rw [show ((0:UInt8) == l[k])=(l[k] == 0) from Bool.beq_comm]
theorem noZ_all (l:List UInt8):noZ l l.length=!l.contains 0:=by unfold noZ;rw [List.take_length]
def ordP:Nat → Nat
 | 0 => 1 | 1 => 2 | 2 => 3 | 3 => 5 | _ => 4
theorem ordP_in {k:Nat} (hk:k < 5):1≤ordP k∧ordP k≤5∧atF (ordP k)+wideF (ordP k)≤512∧2≤wideF (ordP k)∧wideF (ordP k)≤12:=by
 rcases (show k=0 ∨ k=1 ∨ k=2 ∨ k=3 ∨ k=4 by omega) with rfl | rfl | rfl | rfl | rfl<;>decide
theorem ordP_all {P:Nat → Prop} (h:∀ k,k < 5 → P (ordP k)):∀ i,1≤i → i≤5 → P i:=fun i h1 h2 => by
 rcases (show i=1 ∨ i=2 ∨ i=3 ∨ i=4 ∨ i=5 by omega) with rfl | rfl | rfl | rfl | rfl
 ·exact h 0 (by omega)
 ·exact h 1 (by omega)
 ·exact h 2 (by omega)
 ·exact h 4 (by omega)
 ·exact h 3 (by omega)
theorem numC_get (h:HeadV) {k:Nat} (hk:k < 5):(#[Value.int .i64 h.mode,.int .i64 h.uid,.int .i64 h.gid,.int .i64 h.time,.int .i64 h.size]:Array Value)[k]? = some (.int .i64 (numH h (ordP k))):=by
 rcases (show k=0 ∨ k=1 ∨ k=2 ∨ k=3 ∨ k=4 by omega) with rfl | rfl | rfl | rfl | rfl<;>rfl
theorem frC_get {k:Nat} (hk:k < 5):(#[Value.int .i64 100,.int .i64 108,.int .i64 116,.int .i64 136,.int .i64 124]:Array Value)[k]? = some (.int .i64 (atF (ordP k))):=by
 rcases (show k=0 ∨ k=1 ∨ k=2 ∨ k=3 ∨ k=4 by omega) with rfl | rfl | rfl | rfl | rfl<;>rfl
theorem wdC_get {k:Nat} (hk:k < 5):(#[Value.int .i64 8,.int .i64 8,.int .i64 8,.int .i64 12,.int .i64 12]:Array Value)[k]? = some (.int .i64 (wideF (ordP k))):=by
 rcases (show k=0 ∨ k=1 ∨ k=2 ∨ k=3 ∨ k=4 by omega) with rfl | rfl | rfl | rfl | rfl<;>rfl
theorem index5 (b k:Nat) (hk:k < 5) (w:World):(Instr.indexAt 69 (.slice (some ⟨b,0,none⟩) 5 5) (.int .i64 (k:Int))).run Tryd.prog w=.ok (.pointer (some ⟨b,k,none⟩)) w:=by
 have fl:=Tryd.underlying69;have f5:=Tryd.sizeOf3;have h1:(k:Int) < 5:=by omega
 go_simp
theorem load5 (w:World) (a:Addr) (k:Int) (h:w.cell? a=some (.int .i64 k)):(Instr.loadAt 3 (.pointer (some a))).run Tryd.prog w=.ok (.int .i64 k) w:=by
 go_simp
def ownK (h:HeadV):Nat → Nat → List UInt8
 | 0 => zeroO
 | k+1 => upd (ownK h k) (ordP k) (numB h (ordP k))
theorem ownK_fits {h:HeadV}:∀ {k:Nat},(∀ j,j < k → (putF (numH h (ordP j)) (wideF (ordP j))).isSome=true) → Fits (ownK h k)
 | 0,_ => zeroO_fits
 | k+1,hs => (ownK_fits fun j hj => hs j (by omega)).upd (numB_length (hs k (by omega)))
theorem copy_step {w:World} {g:Nat} {own:Nat → List UInt8} (hF:Fits own) {i:Nat} (hi:i < 11) {cs:List UInt8} (hl:cs.length≤wideF i) (hr:RowB w g (splice (blockA own) (atF i) cs)):RowB w g (blockA (upd own i (putInto (own i) cs))):=by
 rw [splice_blockA hF hi hl] at hr;exact hr
theorem copy_fits {own:Nat → List UInt8} (hF:Fits own) {i:Nat} {cs:List UInt8} (hl:cs.length≤wideF i):Fits (upd own i (putInto (own i) cs)):=
 hF.upd (by rw [putInto_length (by rw [hF i];exact hl)];exact hF i)
theorem getD_set (L:List UInt8) (i j:Nat) (x:UInt8) (hi:i < L.length):(L.set i x).getD j 0=if i=j then x else L.getD j 0:=by
 simp only [List.getD,List.getElem?_set]
 by_cases h:i=j
 ·subst h;simp [hi]
 ·simp [h]
theorem set_splice (L:List UInt8) (i:Nat) (x:UInt8) (h:i < L.length):L.set i x=splice L i [x]:=by
 refine getD_ext (by rw [List.length_set,length_splice _ _ _ (by simp;omega)]) fun j _ => ?_
 rw [getD_set _ _ _ _ h,splice_get _ _ _ _ (by simp;omega)]
 by_cases hj:i=j
 ·subst hj;simp
 ·rw [if_neg hj,if_neg (by simp;omega)]
theorem splice_snoc (L cs:List UInt8) (off:Nat) (x:UInt8) (h:off+cs.length+1≤L.length):(splice L off cs).set (off+cs.length) x=splice L off (cs++[x]):=by
 have h0:(splice L off cs).length=L.length:=length_splice _ _ _ (by omega)
 refine getD_ext (by rw [List.length_set,h0,length_splice _ _ _ (by simp;omega)]) fun j _ => ?_
 rw [getD_set _ _ _ _ (by rw [h0];omega),splice_get _ _ _ _ (by omega),splice_get _ _ _ _ (by simp;omega)]
 by_cases hj:off+cs.length=j
 ·subst hj
  rw [if_pos rfl,if_pos (by simp)]
  simp [List.getD]
 ·rw [if_neg hj]
  by_cases hj1:off≤j∧j < off+cs.length
  ·rw [if_pos hj1,if_pos (by simp;omega)]
   simp only [List.getD];rw [List.getElem?_append_left (by omega)]
  ·rw [if_neg hj1,if_neg (by simp;omega)]
def finalO (h:HeadV) (p s:List UInt8):Nat → List UInt8:=
 let a:=ownK h 5
 let b:=upd a 0 (putInto (a 0) s)
 let c:=upd b 10 (putInto (b 10) p)
 let d:=upd c 8 (putInto (c 8) h.link)
 let e:=upd d 9 (putInto (d 9) ustarB)
 upd e 7 (putInto (e 7) [h.kind])
theorem ownK_field (h:HeadV):ownK h 5 0=zeroO 0∧ownK h 5 6=zeroO 6∧ownK h 5 7=zeroO 7∧ownK h 5 8=zeroO 8∧ownK h 5 9=zeroO 9∧ownK h 5 10=zeroO 10 ∧ ∀ i,1≤i → i≤5 → ownK h 5 i=numB h i:=by
 refine ⟨rfl,rfl,rfl,rfl,rfl,rfl,fun i h1 h2 => ?_⟩
 rcases (show i=1 ∨ i=2 ∨ i=3 ∨ i=4 ∨ i=5 by omega) with rfl | rfl | rfl | rfl | rfl<;>rfl
theorem final_own (h:HeadV) (p s:List UInt8) (hF:Fits (ownK h 5)) (hs:s.length≤100) (hp:p.length≤155) (hl:h.link.length≤100) (hn:numsOk h=true):finalO h p s=own1 h p s:=by
 obtain ⟨k0,k6,k7,k8,k9,k10,k15⟩:=ownK_field h;obtain ⟨e0,e6,e7,e8,e9,e10,e15⟩:=own1_field h p s
 have hf:Fits (finalO h p s):=by
  unfold finalO;exact copy_fits (copy_fits (copy_fits (copy_fits (copy_fits hF (i:=0) hs) (i:=10) hp) (i:=8) hl) (i:=9) (show ustarB.length≤wideF 9 by decide)) (i:=7) (show 1≤wideF 7 by decide)
 refine fits_ext hf (own1_fits hs hp hl hn) fun i hi => ?_
 have z:∀ j,zeroO j=List.replicate (wideF j) 0:=fun _ => rfl
 rcases cases11 hi with rfl | rfl | rfl | rfl | rfl | rfl | rfl | rfl | rfl | rfl | rfl
 ·rw [e0,← putInto_zero]
  show putInto (ownK h 5 0) s=_;rw [k0];rfl
 ·rw [e15 1 (by omega) (by omega)];exact k15 1 (by omega) (by omega)
 ·rw [e15 2 (by omega) (by omega)];exact k15 2 (by omega) (by omega)
 ·rw [e15 3 (by omega) (by omega)];exact k15 3 (by omega) (by omega)
 ·rw [e15 4 (by omega) (by omega)];exact k15 4 (by omega) (by omega)
 ·rw [e15 5 (by omega) (by omega)];exact k15 5 (by omega) (by omega)
 ·rw [e6];exact k6
 ·rw [e7]
  show putInto (ownK h 5 7) [h.kind]=_;rw [k7];rfl
 ·rw [e8,← putInto_zero]
  show putInto (ownK h 5 8) h.link=_;rw [k8];rfl
 ·rw [e9]
  show putInto (ownK h 5 9) ustarB=_;rw [k9];rfl
 ·rw [e10,← putInto_zero]
  show putInto (ownK h 5 10) p=_;rw [k10];rfl
set_option maxHeartbeats 8000000 in
theorem rputH_any (h:HeadV) (hwf:∀ i,(Lit.int .i64 (numH h i)).wf=true) (hnl:h.name.length≤140737488351232) (hll:h.link.length≤140737488351232) (w:World) :
 Calls Tryd.prog 23 #[.agg #[.string (str h.name),.string (str h.link),.int .u8 (h.kind.toNat:Int),.int .i64 h.mode,.int .i64 h.uid,.int .i64 h.gid,.int .i64 h.time,.int .i64 h.size,.bool h.gnu]] w (PutHPost w (putR h)):=by
 obtain ⟨nm,hnm⟩:∃ nm,nm=str h.name:=⟨_,rfl⟩;obtain ⟨ln,hln⟩:∃ ln,ln=str h.link:=⟨_,rfl⟩;obtain ⟨kd,hkd⟩:∃ kd:Int,kd=(h.kind.toNat:Int):=⟨_,rfl⟩;have HNM:=Lib.hid hnm;have HND:Hid (nm.data.toList=h.name):=Lib.hid (by rw [hnm,str_data])
 have HLD:Hid (ln.data.toList=h.link):=Lib.hid (by rw [hln,str_data])
 have HNS:Hid (nm.size=h.name.length):=Lib.hid (by rw [hnm,str_size])
 have HLS:Hid (ln.size=h.link.length):=Lib.hid (by rw [hln,str_size])
 have hnz:nm.size≤140737488351232:=by rw [HNS.out];exact hnl
 have hlz:ln.size≤140737488351232:=by rw [HLS.out];exact hll
 have HKV:=Lib.hid hkd;rw [← hnm,← hln,← hkd];have HWF:=Lib.hid hwf;obtain ⟨i0,hi0,hz0,hz1,hz2⟩:=info_parts infoByte;have HIN:=Lib.hid hi0;have HZ0:=Lib.hid hz0;have HZ1:=Lib.hid hz1;have HZ2:=Lib.hid hz2;clear hi0 hz0 hz1 hz2;obtain ⟨gb,hgb⟩:∃ gb,gb=w.heap.size:=⟨_,rfl⟩;obtain ⟨w0,hw0⟩:∃ w0,w0=w.alloc (.cells #[.string nm,.string ln,.int .u8 kd,.int .i64 h.mode,.int .i64 h.uid,.int .i64 h.gid,.int .i64 h.time,.int .i64 h.size,.bool h.gnu] 47):=⟨_,rfl⟩;have HW:Hid (Kept noneB w w0):=Lib.hid (by rw [hw0];exact (Kept.refl _ _).alloc _)
 have HB0:Hid (w0.heap[gb]? = some (.cells #[.string nm,.string ln,.int .u8 kd,.int .i64 h.mode,.int .i64 h.uid,.int .i64 h.gid,.int .i64 h.time,.int .i64 h.size,.bool h.gnu] 47 (0,0))):=Lib.hid (by rw [hw0,hgb];exact heap_alloc_new _ _)
 have HGB:Hid (w.heap.size≤gb):=Lib.hid (by omega)
 clear hwf hnm hln hkd hnl hll
 go_enter Tryd.func23,Tryd.ntmps23
 go_wp2_with fail
 rw [← hw0,← hgb];clear hw0 hgb;refine (rcut_any nm w0 hnz).mono ?_
 rintro e w1 ⟨rfl,hk1⟩;rw [HND.out];have HK1:=Lib.hid (HW.out.trans hk1);have c1:=cellsAt (hk1.some_ HB0.out id);have HB1:=Lib.hid (hk1.some_ HB0.out id);clear hk1
 cases hcut:cutR h.name with
 | none =>
   rw [cutV_none hcut];have HR:=Lib.hid (putR_cut hcut);clear hcut
   go_wp2
   go_ret2
   exact ⟨HK1.out,Or.inr ⟨HR.out,rfl⟩⟩
 | some ps =>
   obtain ⟨p,s⟩:=ps;rw [cutV_some hcut];have HCUT:=Lib.hid hcut;have HSP:=Lib.hid (cutR_spec hcut);clear hcut;have bad:badH h=true → putR h=none:=putR_bad;have HBAD:=Lib.hid bad;clear bad
   by_cases hlk:100 < ln.size
   ·have HR:Hid (putR h=none):=Lib.hid (HBAD.out (by
     have h1:100 < h.link.length:=by rw [← HLS.out];exact hlk
     unfold badH;simp [h1]))
    go_wp2
    go_ret2
    exact ⟨HK1.out,Or.inr ⟨HR.out,rfl⟩⟩
   ·cases hgn:h.gnu with
    | true =>
      have HR:Hid (putR h=none):=Lib.hid (HBAD.out (by unfold badH;rw [hgn];rfl))
      rw [hgn] at c1
      go_wp2
      go_ret2
      exact ⟨HK1.out,Or.inr ⟨HR.out,rfl⟩⟩
    | false =>
      have HGN:=Lib.hid hgn;rw [hgn] at c1;clear hgn
      by_cases hz:kd=0
      ·have HR:Hid (putR h=none):=Lib.hid (HBAD.out (by
        have h1:h.kind=0:=UInt8.toNat.inj (show h.kind.toNat=0 by have:=HKV.out;omega)
        unfold badH;rw [h1];simp))
       have hkz:(kd == 0)=true:=by rw [hz];rfl
       go_wp2
       go_ret2
       exact ⟨HK1.out,Or.inr ⟨HR.out,rfl⟩⟩
      ·have hkz:(kd == 0)=false:=by simpa using hz
       have HBD:Hid (badH h=(h.name.contains 0 || h.link.contains 0)):=Lib.hid (by
        have h1:(h.kind == 0)=false:=by
         rw [beq_eq_false_iff_ne];intro e;exact hz (by rw [HKV.out,e];rfl)
        have h2:¬ 100 < h.link.length:=by rw [← HLS.out];exact hlk
        unfold badH;rw [HGN.out,h1]
        simp [h2])
       go_wp2_with fail
       clear hkz
       go_loop [6,7] (fun ok i => ∃ (k:Nat) (q:Bool),k≤nm.size∧i=.int .i64 k∧ok=.bool q∧Hid (q=noZ h.name k)) (fun _ i => nm.size - (RowKit.intOf i).toNat)
       case atStart => exact ⟨0,_,Nat.zero_le _,rfl,rfl,Lib.hid (by rw [noZ_zero])⟩
       case round =>
        obtain ⟨k,q,hk,rfl,rfl,hq⟩:=hrel
        by_cases hlt:k < nm.size
        ·have hxg:Hid (nm[k]=h.name.getD k 0):=Lib.hid (by rw [← s_at nm k hlt,HND.out])
         have HLT:Hid (k < h.name.length):=Lib.hid (by rw [← HNS.out];exact hlt)
         cases q with
         | false =>
           go_wp2
           go_round
           case rel => exact ⟨k+1,false,by omega,by go_num,rfl,Lib.hid (by rw [noZ_succ HLT.out,← hq.out];rfl)⟩
           case measure => simp [RowKit.intOf];omega
         | true =>
           by_cases hc:nm[k]=0
           ·have hcb:(((nm[k]).toNat:Int) == 0)=true:=by rw [hc];rfl
            have HC:Hid ((h.name.getD k 0 != 0)=false):=Lib.hid (by rw [← hxg.out,hc];rfl)
            go_wp2
            go_round
            case rel => exact ⟨k+1,false,by omega,by go_num,(by first | rfl | (show Value.bool (!(((nm[k]).toNat:Int) == 0))=Value.bool false;rw [hcb];rfl)),Lib.hid (by rw [noZ_succ HLT.out,HC.out];simp)⟩
            case measure => simp [RowKit.intOf];omega
           ·have hcb:(((nm[k]).toNat:Int) == 0)=false:=by
             rw [beq_eq_false_iff_ne];intro e;exact hc (UInt8.toNat.inj (show (nm[k]).toNat=0 by omega))
            have HC:Hid ((h.name.getD k 0 != 0)=true):=Lib.hid (by rw [← hxg.out];simpa using hc)
            go_wp2
            go_round
            case rel => exact ⟨k+1,true,by omega,by go_num,(by show Value.bool (!(((nm[k]).toNat:Int) == 0))=Value.bool true;rw [hcb];rfl),Lib.hid (by rw [noZ_succ HLT.out,HC.out,Bool.and_true];exact hq.out)⟩
            case measure => simp [RowKit.intOf];omega
        ·have hkl:Hid (k=h.name.length):=Lib.hid (by rw [← HNS.out];omega)
         have hq2:Hid (q=noZ h.name h.name.length):=Lib.hid (by rw [hq.out,hkl.out])
         clear hq hkl
         go_wp2_with fail
         clear hlt hk
         go_loop [6,8] (fun ok i => ∃ (k:Nat) (q:Bool),k≤ln.size∧i=.int .i64 k∧ok=.bool q∧Hid (q=(noZ h.name h.name.length && noZ h.link k))) (fun _ i => ln.size - (RowKit.intOf i).toNat)
         case atStart => exact ⟨0,_,Nat.zero_le _,rfl,rfl,Lib.hid (by rw [noZ_zero,Bool.and_true];exact hq2.out)⟩
         case round =>
          obtain ⟨k,q,hk,rfl,rfl,hq⟩:=hrel
          by_cases hlt:k < ln.size
          ·have hxg:Hid (ln[k]=h.link.getD k 0):=Lib.hid (by rw [← s_at ln k hlt,HLD.out])
           have HLT:Hid (k < h.link.length):=Lib.hid (by rw [← HLS.out];exact hlt)
           cases q with
           | false =>
             go_wp2
             go_round
             case rel => exact ⟨k+1,false,by omega,by go_num,rfl,Lib.hid (by rw [noZ_succ HLT.out,← Bool.and_assoc,← hq.out];rfl)⟩
             case measure => simp [RowKit.intOf];omega
           | true =>
             by_cases hc:ln[k]=0
             ·have hcb:(((ln[k]).toNat:Int) == 0)=true:=by rw [hc];rfl
              have HC:Hid ((h.link.getD k 0 != 0)=false):=Lib.hid (by rw [← hxg.out,hc];rfl)
              go_wp2
              go_round
              case rel => exact ⟨k+1,false,by omega,by go_num,(by first | rfl | (show Value.bool (!(((ln[k]).toNat:Int) == 0))=Value.bool false;rw [hcb];rfl)),Lib.hid (by rw [noZ_succ HLT.out,HC.out];simp)⟩
              case measure => simp [RowKit.intOf];omega
             ·have hcb:(((ln[k]).toNat:Int) == 0)=false:=by
               rw [beq_eq_false_iff_ne];intro e;exact hc (UInt8.toNat.inj (show (ln[k]).toNat=0 by omega))
              have HC:Hid ((h.link.getD k 0 != 0)=true):=Lib.hid (by rw [← hxg.out];simpa using hc)
              go_wp2
              go_round
              case rel => exact ⟨k+1,true,by omega,by go_num,(by show Value.bool (!(((ln[k]).toNat:Int) == 0))=Value.bool true;rw [hcb];rfl),Lib.hid (by rw [noZ_succ HLT.out,HC.out,Bool.and_true];exact hq.out)⟩
              case measure => simp [RowKit.intOf];omega
          ·have hkl:Hid (k=h.link.length):=Lib.hid (by rw [← HLS.out];omega)
           have hq3:Hid (q=!badH h):=Lib.hid (by
            rw [hq.out,hkl.out,noZ_all,noZ_all,HBD.out,Bool.not_or])
           go_wp2_with (at_make;refine wpList_make_full _ rfl _ _ 24 rfl w1.heap.size 5 i0 (.int .u8 0) 1 Tryd.underlying24 HIN.out HZ0.out HZ1.out .i64 .i64 _ _ 512 rfl rfl rfl rfl (by rw [HZ2.out];omega) (by decide) (Nat.le_refl _) ?_)
           intro w2 hown hgrow;have hrow:=rowB_own hown;rw [← blockA_zero] at hrow;have hk2:Kept noneB w1 w2:=(Kept.refl noneB w1).grown hgrow (fun k hk => by cases hk)
           obtain ⟨g,hg⟩:∃ g,g=w1.heap.size:=⟨_,rfl⟩;rw [← hg] at hrow ⊢;have HROW:=Lib.hid hrow;have HK2:=Lib.hid (HK1.out.trans hk2);have HGE:Hid (w.heap.size≤g):=Lib.hid (by have:=HK1.out.size;omega)
           have HGG:Hid (gb≠g):=Lib.hid (by have:=(Array.getElem?_eq_some_iff.1 HB1.out).1;omega)
           have HB2:=Lib.hid (hk2.some_ HB1.out id);have c2:=cellsAt HB2.out;rw [HGN.out] at c2;have HQ3:=Lib.hid hq3.out;clear hown hgrow hrow hk2 hg c1 hlt hk hkl hq hq3;obtain ⟨n1,hn1⟩:∃ n1,n1=w2.heap.size:=⟨_,rfl⟩;obtain ⟨w3,hw3⟩:∃ w3,w3=((w2.alloc (.cells #[.int .i64 h.mode,.int .i64 h.uid,.int .i64 h.gid,.int .i64 h.time,.int .i64 h.size] 3)).alloc (.cells #[.int .i64 100,.int .i64 108,.int .i64 116,.int .i64 136,.int .i64 124] 3)).alloc (.cells #[.int .i64 8,.int .i64 8,.int .i64 8,.int .i64 12,.int .i64 12] 3):=⟨_,rfl⟩;have hk3:Kept noneB w2 w3:=by rw [hw3];exact (((Kept.refl noneB w2).alloc _).alloc _).alloc _
           have HA1:Hid (w3.heap[n1]? = some (.cells #[.int .i64 h.mode,.int .i64 h.uid,.int .i64 h.gid,.int .i64 h.time,.int .i64 h.size] 3 (0,0))):=Lib.hid (by
            rw [hw3,hn1]
            exact ((((Kept.refl noneB _).alloc _).alloc _).some_ (heap_alloc_new w2 _) id))
           have HA2:Hid (w3.heap[n1+1]? = some (.cells #[.int .i64 100,.int .i64 108,.int .i64 116,.int .i64 136,.int .i64 124] 3 (0,0))):=Lib.hid (by
            have h1:=((Kept.refl noneB _).alloc (.cells #[.int .i64 8,.int .i64 8,.int .i64 8,.int .i64 12,.int .i64 12] 3)).some_ (heap_alloc_new (w2.alloc (.cells #[.int .i64 h.mode,.int .i64 h.uid,.int .i64 h.gid,.int .i64 h.time,.int .i64 h.size] 3)) (.cells #[.int .i64 100,.int .i64 108,.int .i64 116,.int .i64 136,.int .i64 124] 3)) id;rw [← hw3,World.size_alloc,← hn1] at h1
            exact h1)
           have HA3:Hid (w3.heap[n1+2]? = some (.cells #[.int .i64 8,.int .i64 8,.int .i64 8,.int .i64 12,.int .i64 12] 3 (0,0))):=Lib.hid (by
            have h1:=heap_alloc_new ((w2.alloc (.cells #[.int .i64 h.mode,.int .i64 h.uid,.int .i64 h.gid,.int .i64 h.time,.int .i64 h.size] 3)).alloc (.cells #[.int .i64 100,.int .i64 108,.int .i64 116,.int .i64 136,.int .i64 124] 3)) (.cells #[.int .i64 8,.int .i64 8,.int .i64 8,.int .i64 12,.int .i64 12] 3);rw [← hw3,World.size_alloc,World.size_alloc,← hn1] at h1
            exact h1)
           have HK3:=Lib.hid (HK2.out.trans hk3);have HR3:=Lib.hid (HROW.out.kept hk3 id);have HB3:=Lib.hid (hk3.some_ HB2.out id);have HGN1:Hid (g < n1):=Lib.hid (by rw [hn1];exact HROW.out.lt)
           clear hk3
           go_wp2_with fail
           rw [← hw3,← hn1];clear hw3 hn1 c2
           go_loopw [13] (fun i wr => ∃ k:Nat,k≤5∧i=.int .i64 k∧Hid (Kept (oneB g) w3 wr)∧Hid (RowB wr g (blockA (ownK h k)))∧Hid (∀ j,j < k → (putF (numH h (ordP j)) (wideF (ordP j))).isSome=true)∧Hid (k=0 ∨ q=true)) (fun i _ => 5 - (RowKit.intOf i).toNat)
           case atStart => exact ⟨0,by omega,rfl,Lib.hid (Kept.refl _ _),HR3,Lib.hid (fun j hj => absurd hj (by omega)),Lib.hid (Or.inl rfl)⟩
           case round =>
            obtain ⟨k,hk,rfl,hk8,hr8,hall,hq8⟩:=hrel
            by_cases hlt:k < 5
            ·have ca:=cellsAt (hk8.out.some_ HA1.out (fun e => by have e:n1=g:=e;have:=HGN1.out;omega)) k
             rw [numC_get h hlt] at ca;have cb:=cellsAt (hk8.out.some_ HA2.out (fun e => by have e:n1+1=g:=e;have:=HGN1.out;omega)) k
             rw [frC_get hlt] at cb;have cc:=cellsAt (hk8.out.some_ HA3.out (fun e => by have e:n1+2=g:=e;have:=HGN1.out;omega)) k
             rw [wdC_get hlt] at cc;obtain ⟨ho1,ho2,ho3,ho4,ho5⟩:=ordP_in hlt;obtain ⟨i,hi⟩:∃ i,i=ordP k:=⟨_,rfl⟩;rw [← hi] at ca cb cc ho1 ho2 ho3 ho4 ho5;have HI:=Lib.hid hi;clear hi
             go_wp2_with fail
             refine wp_region_any (by kernel_rfl) (rput_region (w3:=wr) (.slice (some ⟨n1,0,none⟩) 5 5) (.slice (some ⟨n1+1+1,0,none⟩) 5 5) (k:Int) ⟨n1,k,none⟩ ⟨n1+2,k,none⟩ (numH h i) (wideF i:Int) (PutS (putF (numH h i) (wideF i))) (show 152≤152 from Nat.le_refl 152) rfl rfl rfl (fun w => index5 n1 k hlt w) (fun w => index5 (n1+2) k hlt w) (fun w hk => load5 w _ _ (cellsAt (hk.some_ (hk8.out.some_ HA1.out (fun e => by have e:n1=g:=e;have:=HGN1.out;omega)) id) k |>.trans (by rw [numC_get h hlt,HI.out]))) (fun w hk => load5 w _ _ (cellsAt (hk.some_ (hk8.out.some_ HA3.out (fun e => by have e:n1+2=g:=e;have:=HGN1.out;omega)) id) k |>.trans (by rw [wdC_get hlt,HI.out]))) (fun w hk => rput_s _ _ w (HWF.out i) (WalkArith.wf_i64 (by omega))) ?_)
             intro v y w4 hp hk4;have HK4:=Lib.hid hk4;have cb4:=cellsAt (hk4.some_ (hk8.out.some_ HA2.out (fun e => by have e:n1+1=g:=e;have:=HGN1.out;omega)) id) k
             rw [frC_get hlt,← HI.out] at cb4;have HR4:=Lib.hid (hr8.out.kept hk4 id);clear hk4 ca cb cc;simp only [Exit.then]
             apply_assumption
             rcases hp with ⟨l,sp,sc,hl,rfl,rfl,hlc,hsrc⟩ | ⟨hl,rfl,rfl⟩
             ·cases q with
              | false =>
                have HR:Hid (putR h=none):=Lib.hid (HBAD.out (by have:=HQ3.out;revert this;cases badH h<;>simp))
                go_wp2
                go_ret2
                exact ⟨(HK3.out.then hk8.out (fun i hi => Or.inl (by
                 have h1:i=g:=hi;rw [h1]
                 exact HGE.out))).trans HK4.out,Or.inr ⟨HR.out,rfl⟩⟩
              | true =>
                have HSOME:Hid ((putF (numH h i) (wideF i)).isSome=true):=Lib.hid (by rw [hl];rfl)
                have HNB:Hid (numB h i=bytesOf l):=Lib.hid (numB_some hl);have hll2:l.length=wideF i:=by rw [← bytesOf_length,← HNB.out];exact numB_length HSOME.out
                have HSRC:=Lib.hid hsrc;have HFK:=Lib.hid (ownK_fits hall.out);have HMN:Hid ((bytesOf l).length=Nat.min (wideF i) (512 - atF i)):=Lib.hid (by rw [bytesOf_length,hll2];exact (Nat.min_eq_left (by omega)).symm)
                have HSR2:Hid (BAt w4 sp (bytesOf l).length (bytesOf l)):=Lib.hid (by rw [bytesOf_length];exact HSRC.out)
                have HFIT:Hid (atF i+(bytesOf l).length≤(blockA (ownK h k)).length):=Lib.hid (by rw [bytesOf_length,blockA_length];omega)
                have hat:(atF i:Int)≤512:=by omega
                clear hl hsrc
                go_wp2_with (first | (refine wpList_copyB rfl _ _ 24 24 rfl 5 Tryd.underlying24 infoSz (some ⟨g,atF i,none⟩) sp (512 - atF i) (512 - atF i) (wideF i) sc rfl rfl g (atF i) (blockA (ownK h k)) HR4.out (bytesOf l) HMN.out (fun _ => by simp) HSR2.out HFIT.out ?_;intro w5 hr5 hk5 hs5) | go_in)
                have HK5:=Lib.hid hk5
                have HR5:Hid (RowB w5 g (blockA (ownK h (k+1)))):=Lib.hid (by
                 have h1:=hr5.out;rw [splice_blockA HFK.out (by omega) (by rw [bytesOf_length,hll2];exact Nat.le_refl _),putInto_all (by rw [bytesOf_length,hll2,HFK.out i]),← HNB.out] at h1
                 rw [ownK,← HI.out]
                 exact h1)
                clear hk5 hs5 hr5
                try go_frame
                try go_wp2
                go_roundw
                case rel =>
                 refine ⟨k+1,by omega,by go_num,Lib.hid ((hk8.out.trans (HK4.out.of_none _)).trans HK5.out),HR5,Lib.hid (fun j hj => ?_),Lib.hid (Or.inr (by simp))⟩
                 rcases Nat.lt_or_ge j k with h1 | h1
                 ·exact hall.out j h1
                 ·obtain rfl:j=k:=by omega
                  rw [← HI.out];exact HSOME.out
                case measure => simp [RowKit.intOf];omega
             ·have HR:Hid (putR h=none):=Lib.hid (putR_num (by
               cases hn:numsOk h with
               | false => rfl
               | true =>
                 have h1:=numsOk_iff.1 hn i ho1 ho2;rw [hl] at h1
                 cases h1))
              go_wp2
              go_ret2
              exact ⟨(HK3.out.then hk8.out (fun i hi => Or.inl (by
               have h1:i=g:=hi;rw [h1]
               exact HGE.out))).trans HK4.out,Or.inr ⟨HR.out,rfl⟩⟩
            ·obtain rfl:k=5:=by omega
             have hqt:q=true:=by
              rcases hq8.out with h1 | h1
              ·omega
              ·exact h1
             subst hqt;have HBF:Hid (badH h=false):=Lib.hid (by have:=HQ3.out;revert this;cases badH h<;>simp)
             have HNO:Hid (numsOk h=true):=Lib.hid (numsOk_iff.2 (ordP_all fun j hj => hall.out j hj))
             have HPR:=Lib.hid (putR_ok HCUT.out HBF.out HNO.out)
             have HKR:Hid (Kept noneB w wr):=Lib.hid (HK3.out.then hk8.out (fun i hi => Or.inl (by
              have h1:i=g:=hi;rw [h1]
              exact HGE.out)))
             have HBR:=Lib.hid (hk8.out.some_ HB3.out HGG.out);obtain ⟨oA,hoA⟩:∃ oA,oA=ownK h 5:=⟨_,rfl⟩;have hFA:Fits oA:=by rw [hoA];exact ownK_fits hall.out
             rw [← hoA] at hr8;have HOA:=Lib.hid hoA;have HFA:=Lib.hid hFA;have hsl:s.length≤100:=HSP.out.1;have hpl:p.length≤155:=HSP.out.2.1;have h5:¬ ((5:Int) < 5):=by omega
             clear hoA hFA
             go_wp2_with (first | (refine wpList_copyS rfl _ _ 24 9 rfl 5 Tryd.underlying24 infoSz (some ⟨g,0,none⟩) 512 512 (str s) rfl rfl g 0 (blockA oA) hr8.out s (by rw [str_data,List.take_of_length_le (by omega)]) (fun _ => rfl) (by rw [blockA_length];omega) ?_;intro w4 hr4 hk4 hs4) | go_in)
             have HR4:=Lib.hid (copy_step HFA.out (i:=0) (by omega) (show s.length≤wideF 0 from hsl) hr4.out)
             have HFB:=Lib.hid (copy_fits HFA.out (i:=0) (show s.length≤wideF 0 from hsl))
             have HK4:=Lib.hid hk4;clear hr4 hk4 hs4;have HP1:Hid (p=(str p).data.toList.take 167):=Lib.hid (by rw [str_data,List.take_of_length_le (by omega)])
             obtain ⟨oB,hoB⟩:∃ oB,oB=upd oA 0 (putInto (oA 0) s):=⟨_,rfl⟩;rw [← hoB] at HR4 HFB;have HOB:=Lib.hid hoB;have HP2:Hid (345+p.length≤(blockA oB).length):=Lib.hid (by rw [blockA_length];omega)
             clear hoB;obtain ⟨w5,hrun5,hr5,hk5,hs5⟩:=run_copyS (P:=Tryd.prog) (w:=w4) 24 9 3 5 Tryd.underlying24 infoSz (some ⟨g,345,none⟩) 167 167 (str p) g 345 (blockA oB) HR4.out p HP1.out (fun _ => rfl) HP2.out
             have hr5:=Lib.hid hr5;have HR5:=Lib.hid (copy_step HFB.out (i:=10) (by omega) (show p.length≤wideF 10 from hpl) hr5.out)
             have HFC:=Lib.hid (copy_fits HFB.out (i:=10) (show p.length≤wideF 10 from hpl))
             have HK5:=Lib.hid (HK4.out.trans hk5);have HB5:=Lib.hid (HK5.out.some_ HBR.out HGG.out);have c5:=cellsAt HB5.out;clear hr5 hk5 hs5
             go_wp2_with fail
             rw [hrun5];simp only [Result.andThen];rw [Oper.upon_value]
             apply_assumption
             clear hrun5
             go_wp2_with fail
             try go_frame
             go_still_tail 4,(by kernel_rfl)
             obtain ⟨oC,hoC⟩:∃ oC,oC=upd oB 10 (putInto (oB 10) p):=⟨_,rfl⟩;rw [← hoC] at HR5 HFC;have HOC:=Lib.hid hoC;have hll:h.link.length≤100:=by have:=HLS.out;omega
             have HLL:=Lib.hid hll;have HL1:Hid (h.link=ln.data.toList.take 355):=Lib.hid (by rw [HLD.out,List.take_of_length_le (by omega)])
             have HL2:Hid (157+h.link.length≤(blockA oC).length):=Lib.hid (by rw [blockA_length];omega)
             clear hoC hll;refine wpList_copyS rfl _ _ 24 9 rfl 5 Tryd.underlying24 infoSz (some ⟨g,157,none⟩) 355 355 ln rfl rfl g 157 (blockA oC) (HR5.out.kept (Kept.refl noneB _).drew id) h.link HL1.out (fun _ => rfl) HL2.out ?_
             intro w6 hr6 hk6 hs6;have HR6:=Lib.hid (copy_step HFC.out (i:=8) (by omega) (show h.link.length≤wideF 8 from HLL.out) hr6.out)
             have HFD:=Lib.hid (copy_fits HFC.out (i:=8) (show h.link.length≤wideF 8 from HLL.out))
             have HK6:Hid (Kept (oneB g) wr w6):=Lib.hid (HK5.out.drew.trans hk6);obtain ⟨oD,hoD⟩:∃ oD,oD=upd oC 8 (putInto (oC 8) h.link):=⟨_,rfl⟩;rw [← hoD] at HR6 HFD;have HOD:=Lib.hid hoD;clear hr6 hk6 hs6 hoD;have HU2:Hid (257+ustarB.length≤(blockA oD).length):=Lib.hid (by rw [blockA_length];decide)
             try go_frame
             have HU1:Hid (ustarB.length≤wideF 9):=Lib.hid (by decide)
             go_wp2_with (first | (refine wpList_copyS rfl _ _ 24 9 rfl 5 Tryd.underlying24 infoSz (some ⟨g,257,none⟩) 255 255 _ rfl rfl g 257 (blockA oD) HR6.out ustarB rfl (fun _ => rfl) HU2.out ?_;intro w7 hr7 hk7 hs7;have HR7:=Lib.hid (copy_step HFD.out (i:=9) (by omega) HU1.out hr7.out);have HK7:Hid (Kept (oneB g) wr w7):=Lib.hid (HK6.out.trans hk7);have c7:=cellsAt (HK7.out.some_ HBR.out HGG.out);have e156:=HR7.out.cell 156 (by rw [blockA_length];omega);have f156:=HR7.out.frozen 156;clear hr7 hk7 hs7) | fail)
             obtain ⟨oE,hoE⟩:∃ oE,oE=upd oD 9 (putInto (oD 9) ustarB):=⟨_,rfl⟩;rw [← hoE] at HR7;have hFE:Fits oE:=by rw [hoE];exact copy_fits HFD.out (i:=9) HU1.out
             have hr8:=HR7.out.set 156 h.kind;rw [← HKV.out,set_splice _ _ _ (by rw [blockA_length];omega)] at hr8
             have hr8:=copy_step hFE (i:=7) (by omega) (show [h.kind].length≤wideF 7 from Nat.le_refl _) hr8
             have hfin:upd oE 7 (putInto (oE 7) [h.kind])=own1 h p s:=by
              rw [hoE,HOD.out,HOC.out,HOB.out,HOA.out];exact final_own h p s (by rw [← HOA.out];exact HFA.out) HSP.out.1 HSP.out.2.1 HLL.out HNO.out
             rw [hfin] at hr8;obtain ⟨w8,hw8⟩:∃ w8,w8=w7.setCell ⟨g,156,none⟩ (.int .u8 kd):=⟨_,rfl⟩;rw [← hw8] at hr8 ⊢;have HK8:Hid (Kept (oneB g) wr w8):=Lib.hid (by rw [hw8];exact HK7.out.setCell (a:=⟨g,156,none⟩) (Or.inr (show oneB g g from rfl)) _)
             have HR8:=Lib.hid hr8;have hb8:=hr8.bat;rw [blockA_length] at hb8;obtain ⟨S,hS⟩:∃ S,S=sumTo (blockA (own1 h p s)) 512:=⟨_,rfl⟩;have hSL:=sumTo_le (blockA (own1 h p s)) 512;refine (rsum_any _ 512 512 (blockA (own1 h p s)) w8 (by omega) hb8).mono ?_
             rintro e w8' ⟨rfl,rfl⟩;rw [← hS] at hSL ⊢;have HSS:=Lib.hid hS;have HO1:=Lib.hid (own1_fits HSP.out.1 HSP.out.2.1 HLL.out HNO.out);clear hS hb8 hr8 hw8 hfin hFE hoE c7 e156 f156
             go_wp2_with fail
             refine (rput_s (S:Int) 7 w8 (WalkArith.wf_i64 (by omega)) (by decide)).mono ?_
             rintro e w9 ⟨v,y,rfl,hp,hk9⟩;rcases hp with ⟨l,sp,sc,hl,rfl,rfl,hlc,hsrc⟩ | ⟨hl,_,_⟩
             ·rw [putF_sum (by omega)] at hl
              have hl:=Option.some.inj hl;have hl7:l.length=7:=by rw [← hl];simp [putD_length]
              have HR9:=Lib.hid (HR8.out.kept hk9 id);have HK9:Hid (Kept (oneB g) wr w9):=Lib.hid (HK8.out.trans (hk9.of_none _));have HSRC:Hid (BAt w9 sp (bytesOf l).length (bytesOf l)):=Lib.hid (by rw [bytesOf_length];exact hsrc)
              have HMN:Hid ((bytesOf l).length=Nat.min 7 364):=Lib.hid (by rw [bytesOf_length,hl7];rfl)
              have HFIT:Hid (148+(bytesOf l).length≤(blockA (own1 h p s)).length):=Lib.hid (by rw [bytesOf_length,blockA_length,hl7];omega)
              have HB7:Hid ((bytesOf l).length=7):=Lib.hid (by rw [bytesOf_length,hl7])
              have HSB:Hid (bytesOf l++[32]=sumB S):=Lib.hid (by rw [sumB,hl])
              rw [hl7];rw [hl7] at hlc;clear hl hl7 hsrc hk9
              go_wp2_with (first | (refine wpList_copyB rfl _ _ 24 24 rfl 5 Tryd.underlying24 infoSz (some ⟨g,148,none⟩) sp 364 364 7 sc rfl rfl g 148 (blockA (own1 h p s)) HR9.out (bytesOf l) HMN.out (fun _ => rfl) HSRC.out HFIT.out ?_;intro w10 hr10 hk10 hs10;have HR10:=Lib.hid hr10.out;have HK10:Hid (Kept (oneB g) wr w10):=Lib.hid (HK9.out.trans hk10);have e155:=HR10.out.cell 155 (by rw [length_splice _ _ _ HFIT.out,blockA_length];omega);have f155:=HR10.out.frozen 155;clear hr10 hk10 hs10) | fail)
              have hset:(splice (blockA (own1 h p s)) 148 (bytesOf l)).set 155 32=blockA (own2 h p s):=by
               have h1:=splice_snoc (blockA (own1 h p s)) (bytesOf l) 148 32 (by rw [HB7.out,blockA_length];omega)
               rw [HB7.out,HSB.out] at h1;have h2:splice (blockA (own1 h p s)) 148 (sumB S)=_:=splice_blockA HO1.out (i:=6) (by omega) (by rw [sumB_length];exact Nat.le_refl _)
               rw [putInto_all (by rw [sumB_length,(own1_field h p s).2.1];rfl),HSS.out] at h2
               rw [HSS.out] at h1;exact h1.trans h2
              have hr11:=HR10.out.set 155 32;rw [hset] at hr11
              go_ret2
              exact ⟨HKR.out.then (HK10.out.setCell (a:=⟨g,155,none⟩) (Or.inr (show oneB g g from rfl)) _) (fun i hi => Or.inl (by
               have h1:i=g:=hi;rw [h1]
               exact HGE.out)),Or.inl ⟨_,g,HPR.out,rfl,hr11,HGE.out⟩⟩
             ·exfalso
              rw [putF_sum (by omega)] at hl
              cases hl
end Go.Proofs.YtnpkcneojilmkaaDoor.Head
end
section
namespace Go.Proofs.YtnpkcneojilmkaaDoor.Mem
open Go.ChangeShapes Go.WideShapes Go.ChangeAt Go.RowKit Base Byt Txt Bk Hp Head Num Path Block Rec Attr Go.Proofs.YtnpkcneojilmkaaDoor.Mp Go.Lib
set_option linter.unusedVariables false
set_option maxRecDepth 100000
structure PM (w:World) (M:Array Value) (wx:World) (h:HeadV):Prop where
 bel:Below w.heap.size w wx
 mem:Blk wx w.heap.size 26 M
 hd:Blk wx (w.heap.size+1) 47 (headC h)
theorem PM.below {w:World} {M:Array Value} {wx wy:World} {h:HeadV} (hm:PM w M wx h) (hb:Below wx.heap.size wx wy):PM w M wy h:=
 ⟨hm.bel.trans (hb.mono hm.bel.size),hm.mem.below hb hm.mem.lt,hm.hd.below hb hm.hd.lt⟩
theorem PM.kept {w:World} {M:Array Value} {wx wy:World} {h:HeadV} (hm:PM w M wx h) (hk:Kept noneB wx wy):PM w M wy h:=hm.below (hk.below (Nat.le_refl _) (fun _ h => h.elim))
theorem PM.set {w:World} {M:Array Value} {wx:World} {h h':HeadV} (hm:PM w M wx h) (i:Nat) (v:Value) (hb:Blk (wx.setCell ⟨w.heap.size+1,i,none⟩ v) (w.heap.size+1) 47 (headC h')):PM w M (wx.setCell ⟨w.heap.size+1,i,none⟩ v) h':=
 ⟨hm.bel.setCell (p:=⟨w.heap.size+1,i,none⟩) (Nat.le_succ _) v,hm.mem.other (by omega) v,hb⟩
theorem rcutV_is (l:List UInt8):∃ a b,Head.cutV l=.tuple #[.string a,.string b,.bool (cutR l).isSome]:=by
 unfold Head.cutV
 cases cutR l with
 | none => exact ⟨_,_,rfl⟩
 | some x => exact ⟨_,_,rfl⟩
theorem ownB_row {w:World} {g B:Nat} {bs:List UInt8} (h:RowB w g bs) (hB:B≤g) (hc:bs.length≤maxLen):OwnB w B (.slice (some ⟨g,0,none⟩) bs.length bs.length) bs.length bs:=by
 refine ⟨by simp [nums],.inr ⟨g,bs.length,(bs.map bv).toArray,rfl,hB,h,Nat.le_refl _,hc,by simp,?_⟩⟩
 rw [Nat.mul_one,List.take_of_length_le (by simp)]
 unfold nums;rw [List.map_map];rfl
set_option maxHeartbeats 16000000 in
theorem rput_any (m:MemV) (p:Option Addr) (c:Nat) (w:World) (hg:GoodM m) (hb:BAt w p m.body.length m.body) :
 Calls Tryd.prog 11 #[.agg (memC m p c)] w (PadPost w (putM m)):=by
 have hpl:=hg.pathL;have htl:m.target.length≤200:=target_le hg;obtain ⟨bl,hbl⟩:∃ bl,m.body.length=bl:=⟨_,rfl⟩;have hblm:bl≤1048576:=by rw [← hbl];exact hg.body
 obtain ⟨u,hu⟩:∃ u:Nat,m.uid=(u:Int):=⟨m.uid.toNat,by have:=hg.uid;omega⟩
 obtain ⟨g,hgg⟩:∃ g:Nat,m.gid=(g:Int):=⟨m.gid.toNat,by have:=hg.gid;omega⟩
 obtain ⟨t,ht⟩:∃ t:Nat,m.time=(t:Int):=⟨m.time.toNat,by have:=hg.time;omega⟩
 have hun:u < 1000000000000000000:=by have:=hg.uid;omega
 have hgn:g < 1000000000000000000:=by have:=hg.gid;omega
 have htn:t < 1000000000000000000:=by have:=hg.time;omega
 obtain ⟨b0,hb0⟩:∃ b,(cutR m.path).isSome=b:=⟨_,rfl⟩;obtain ⟨f0,hf0⟩:∃ b,fitsD m.path=b:=⟨_,rfl⟩;obtain ⟨f1,hf1⟩:∃ b,fitsD m.target=b:=⟨_,rfl⟩;obtain ⟨lp,hlp⟩:∃ b,longP m=b:=⟨_,rfl⟩;obtain ⟨ll,hll⟩:∃ b,longL m=b:=⟨_,rfl⟩
 have HLP:Hid (lp=(!b0 || !f0)):=Lib.hid (by
  rw [← hlp,← hb0,← hf0];unfold longP
  cases cutR m.path<;>rfl)
 have HLL:Hid (ll=(decide (100 < m.target.length) || !f1)):=Lib.hid (by rw [← hll,← hf1];rfl)
 obtain ⟨S1,hS1⟩:∃ S,(if lp then lineD (keyT 4) m.path else [])=S:=⟨_,rfl⟩
 obtain ⟨S2,hS2⟩:∃ S,S1++(if ll then lineD (keyT 5) m.target else [])=S:=⟨_,rfl⟩
 obtain ⟨S3,hS3⟩:∃ S,S2++(if 2097151 < u then lineD (keyT 0) (decL u) else [])=S:=⟨_,rfl⟩
 obtain ⟨S4,hS4⟩:∃ S,S3++(if 2097151 < g then lineD (keyT 1) (decL g) else [])=S:=⟨_,rfl⟩
 obtain ⟨S5,hS5⟩:∃ S,S4++(if 8589934591 < t then lineD (keyT 2) (decL t) else [])=S:=⟨_,rfl⟩
 have HS5:Hid (linesD (recsM m)=S5):=Lib.hid (by
  have e:∀ (c:Prop) [Decidable c] (k v:List UInt8),linesD (if c then [(k,v)] else [])=if c then lineD k v else []:=fun c _ k v => by
   split<;>simp [linesD]
  have ea:∀ a b:RecL,linesD (a++b)=linesD a++linesD b:=fun a b => by simp [linesD]
  rw [← hS5,← hS4,← hS3,← hS2,← hS1];unfold recsM;rw [ea,ea,ea,ea,e,e,e,e,e,hlp,hll,hu,hgg,ht];simp only [Int.toNat_natCast]
  congr 1
  ·congr 1
   ·congr 1
    split<;>split<;>first | rfl | omega
   ·split<;>split<;>first | rfl | omega
  ·split<;>split<;>first | rfl | omega)
 have HSL:Hid (S1.length≤S2.length∧S2.length≤S3.length∧S3.length≤S4.length∧S4.length≤S5.length):=Lib.hid (by
  rw [← hS5,← hS4,← hS3,← hS2];simp only [List.length_append]
  omega)
 have HS5L:Hid (S5.length≤1048576):=Lib.hid (by rw [← HS5.out];exact linesM_le hg)
 obtain ⟨h1,hh1⟩:∃ h:HeadV,HeadV.mk (if lp then longN else m.path) m.target m.kind m.mode (u:Int) (g:Int) (t:Int) (bl:Int) false=h:=⟨_,rfl⟩
 obtain ⟨h2,hh2⟩:∃ h:HeadV,{ h1 with link:=if ll then longN else m.target }=h:=⟨_,rfl⟩
 obtain ⟨h3,hh3⟩:∃ h:HeadV,{ h2 with uid:=if 2097151 < u then 0 else (u:Int) }=h:=⟨_,rfl⟩
 obtain ⟨h4,hh4⟩:∃ h:HeadV,{ h3 with gid:=if 2097151 < g then 0 else (g:Int) }=h:=⟨_,rfl⟩
 obtain ⟨h5,hh5⟩:∃ h:HeadV,{ h4 with time:=if 8589934591 < t then 0 else (t:Int) }=h:=⟨_,rfl⟩
 have HH5:Hid (headM m=h5):=Lib.hid (by
  rw [← hh5,← hh4,← hh3,← hh2,← hh1];unfold headM;rw [hlp,hll,hu,hgg,ht,hbl];have c1:((2097151:Int) < (u:Int)) ↔ 2097151 < u:=by omega
  have c2:((2097151:Int) < (g:Int)) ↔ 2097151 < g:=by omega
  have c3:((8589934591:Int) < (t:Int)) ↔ 8589934591 < t:=by omega
  simp only [c1,c2,c3])
 have HD1:=Lib.hid hS1;have HD2:=Lib.hid hS2;have HD3:=Lib.hid hS3;have HD4:=Lib.hid hS4;have HD5:=Lib.hid hS5;have HE1:=Lib.hid hh1;have HE2:=Lib.hid hh2;have HE3:=Lib.hid hh3;have HE4:=Lib.hid hh4;have HE5:=Lib.hid hh5;rw [hbl] at hb;obtain ⟨W1,hW1⟩:∃ W1,(w.alloc (.cells #[.string (str m.path),.string (str m.target),.int .u8 (m.kind.toNat:Int),.int .i64 m.mode,.int .i64 (u:Int),.int .i64 (g:Int),.int .i64 (t:Int),.slice p bl c] 26)).alloc (.cells (headC ⟨m.path,m.target,m.kind,m.mode,(u:Int),(g:Int),(t:Int),(bl:Int),false⟩) 47)=W1:=⟨_,rfl⟩
 have hP1:PM w #[.string (str m.path),.string (str m.target),.int .u8 (m.kind.toNat:Int),.int .i64 m.mode,.int .i64 (u:Int),.int .i64 (g:Int),.int .i64 (t:Int),.slice p bl c] W1 ⟨m.path,m.target,m.kind,m.mode,(u:Int),(g:Int),(t:Int),(bl:Int),false⟩:=by
  have b1:=Blk.new (w.alloc (.cells #[.string (str m.path),.string (str m.target),.int .u8 (m.kind.toNat:Int),.int .i64 m.mode,.int .i64 (u:Int),.int .i64 (g:Int),.int .i64 (t:Int),.slice p bl c] 26)) 47 (headC ⟨m.path,m.target,m.kind,m.mode,(u:Int),(g:Int),(t:Int),(bl:Int),false⟩);rw [World.size_alloc] at b1;rw [← hW1];exact ⟨((Below.refl _ w).alloc (Nat.le_refl _) _).alloc (by simp) _,(Blk.new w _ _).alloc _,b1⟩
 have HP1:=Lib.hid hP1;have HB:=Lib.hid hb;have HG:=Lib.hid hg;have HBL:=Lib.hid hbl;have HW1:=Lib.hid hW1;have HTN:=Lib.hid (And.intro hpl htl);have HUN:=Lib.hid (And.intro hun (And.intro hgn htn));have HBM:=Lib.hid hblm;obtain ⟨cx,cy,hcv⟩:=rcutV_is m.path;rw [hb0] at hcv;have HCV:=Lib.hid hcv;have HF0:=Lib.hid hf0;have HF1:=Lib.hid hf1;unfold memC;rw [hbl,hu,hgg,ht];clear hP1 hb hg hbl hW1 hpl htl hcv hu hgg ht hun hgn htn hb0 hf0 hf1 hlp hll hS1 hS2 hS3 hS4 hS5 hh1 hh2 hh3 hh4 hh5 hblm
 go_enter Tryd.func11,Tryd.ntmps11
 go_upto_region 3 with fail
 rw [show (w.alloc (.cells #[.string (str m.path),.string (str m.target),.int .u8 (m.kind.toNat:Int),.int .i64 m.mode,.int .i64 (u:Int),.int .i64 (g:Int),.int .i64 (t:Int),.slice p bl c] 26)).alloc (.cells #[.string (str m.path),.string (str m.target),.int .u8 (m.kind.toNat:Int),.int .i64 m.mode,.int .i64 (u:Int),.int .i64 (g:Int),.int .i64 (t:Int),.int .i64 (bl:Int),.bool false] 47)=W1 from HW1.out]
 have y0:=HP1.out.mem.cell 0;simp only [List.getElem?_toArray,List.getElem?_cons_zero] at y0
 go_wp2_with fail
 refine (rcut_any (str m.path) W1 (by rw [str_size];have:=HTN.out.1;omega)).mono ?_
 rw [str_data,HCV.out];rintro e w2 ⟨rfl,hk2⟩;have HP2:=Lib.hid (HP1.out.kept hk2);clear hk2 y0;have y0:=HP2.out.mem.cell 0;simp only [List.getElem?_toArray,List.getElem?_cons_zero] at y0
 go_upto_region 4 with fail
 go_cut [39] (fun s39 wx => s39=.bool lp∧wx=w2)
 case first =>
  cases b0 with
  | false =>
    go_wp2
    go_meet
    exact ⟨by rw [HLP.out];rfl,rfl⟩
  | true =>
    go_wp2_with fail
    refine (rfits_any (str m.path) w2 (by rw [str_size];have:=HTN.out.1;omega)).mono ?_
    rw [str_data,HF0.out];rintro e w3 ⟨rfl,rfl⟩
    go_wp2
    go_meet
    exact ⟨by rw [HLP.out];rfl,rfl⟩
 case rest =>
  obtain ⟨rfl,rfl⟩:=hcut
  go_upto_if 39 with fail
  go_cut [4] (fun s4 wx => s4=.string (str S1)∧PM w #[.string (str m.path),.string (str m.target),.int .u8 (m.kind.toNat:Int),.int .i64 m.mode,.int .i64 (u:Int),.int .i64 (g:Int),.int .i64 (t:Int),.slice p bl c] wx h1)
  case first =>
   cases lp with
   | false =>
     have EH:HeadV.mk m.path m.target m.kind m.mode (u:Int) (g:Int) (t:Int) (bl:Int) false=h1:=by rw [← HE1.out];rfl
     have ES:S1=[]:=by rw [← HD1.out];rfl
     go_wp2
     go_meet
     exact ⟨by rw [ES];rfl,by rw [← EH];exact HP2.out⟩
   | true =>
     go_wp2_with fail
     refine (line_any (keyT 4) m.path _ (by have:=HTN.out.1;have:=HTN.out.2;simp [keyT];omega)).mono ?_
     rintro e w3 ⟨rfl,hb3⟩;have HP3:=Lib.hid (HP2.out.below hb3);clear hb3;have b9:=HP3.out.hd;have z0:=b9.cell 0;have fz0:=b9.frozen 0;simp only [headC,List.getElem?_toArray,List.getElem?_cons_zero] at z0;clear b9;have ES:S1=lineD (keyT 4) m.path:=by rw [← HD1.out];rfl
     obtain ⟨A,hA⟩:∃ A:ByteArray,str (lineD (keyT 4) m.path)=A:=⟨_,rfl⟩;obtain ⟨ka,hka⟩:∃ ka,A.size=ka:=⟨_,rfl⟩;have hkl:(lineD (keyT 4) m.path).length=ka:=by rw [← hka,← hA,str_size]
     have hsum:ka≤9223372036854775807:=by
      have h1:=congrArg List.length ES;rw [hkl] at h1;have h2:=HSL.out;have h3:=HS5L.out;omega
     have hsum0:0+ka≤9223372036854775807:=by omega
     rw [hA];clear hkl;have HES:=Lib.hid ES;have HA:=Lib.hid hA;clear ES hA
     go_wp2
     go_meet
     exact ⟨by rw [HES.out,← HA.out];exact congrArg Value.string (str_app [] _),HP3.out.set 0 _ (by
      have h9:=HP3.out.hd.set 0 (.string (str longN)) (by show 0 < 9;decide)
      rw [show h1=HeadV.mk longN m.target m.kind m.mode (u:Int) (g:Int) (t:Int) (bl:Int) false from by rw [← HE1.out];rfl]
      exact h9)⟩
  case rest =>
   obtain ⟨rfl,hP⟩:=hcut;have HP4:=Lib.hid hP;clear hP y0
   go_upto_region 7 with fail
   have y1:=HP4.out.mem.cell 1;simp only [List.getElem?_toArray,List.getElem?_cons_zero,List.getElem?_cons_succ] at y1
   go_cut [56] (fun s56 wx => s56=.bool ll∧wx=wc)
   case first =>
    have hs:(str m.target).size=m.target.length:=str_size _
    by_cases hl:100 < m.target.length
    ·have hl2:(100:Int) < (m.target.length:Int):=by omega
     have El:ll=true:=by rw [HLL.out];simp [hl]
     go_wp2
     go_meet
     exact ⟨by rw [El],rfl⟩
    ·have hl2:¬ (100:Int) < (m.target.length:Int):=by omega
     have El:ll=!f1:=by rw [HLL.out];simp [hl]
     go_wp2_with fail
     refine (rfits_any (str m.target) _ (by rw [str_size];have:=HTN.out.2;omega)).mono ?_
     rw [str_data,HF1.out];rintro e w3 ⟨rfl,rfl⟩
     go_wp2
     go_meet
     exact ⟨by rw [El],rfl⟩
   case rest =>
    obtain ⟨rfl,rfl⟩:=hcut
    go_upto_if 56 with fail
    go_cut [4] (fun s4 wx => s4=.string (str S2)∧PM w #[.string (str m.path),.string (str m.target),.int .u8 (m.kind.toNat:Int),.int .i64 m.mode,.int .i64 (u:Int),.int .i64 (g:Int),.int .i64 (t:Int),.slice p bl c] wx h2)
    case first =>
     cases ll with
     | false =>
       have EH:h1=h2:=by rw [← HE2.out,← HE1.out];rfl
       have ES:S2=S1:=by rw [← HD2.out];simp
       go_wp2
       go_meet
       exact ⟨by rw [ES],by rw [← EH];exact HP4.out⟩
     | true =>
       go_wp2_with fail
       refine (line_any (keyT 5) m.target _ (by have:=HTN.out.1;have:=HTN.out.2;simp [keyT];omega)).mono ?_
       rintro e w3 ⟨rfl,hb3⟩;have HP3:=Lib.hid (HP4.out.below hb3);clear hb3;have b9:=HP3.out.hd;have z1:=b9.cell 1;have fz1:=b9.frozen 1;simp only [headC,List.getElem?_toArray,List.getElem?_cons_zero,List.getElem?_cons_succ] at z1;clear b9;have ES:S2=S1++lineD (keyT 5) m.target:=by rw [← HD2.out];rfl
       obtain ⟨A,hA⟩:∃ A:ByteArray,str (lineD (keyT 5) m.target)=A:=⟨_,rfl⟩;obtain ⟨ka,hka⟩:∃ ka,A.size=ka:=⟨_,rfl⟩;have hkl:(lineD (keyT 5) m.target).length=ka:=by rw [← hka,← hA,str_size]
       obtain ⟨Q,hQ⟩:∃ Q:ByteArray,str S1=Q:=⟨_,rfl⟩;obtain ⟨kq,hkq⟩:∃ kq,Q.size=kq:=⟨_,rfl⟩;have hql:S1.length=kq:=by rw [← hkq,← hQ,str_size]
       have hsum:kq+ka≤9223372036854775807:=by
        have h1:=congrArg List.length ES;rw [List.length_append,hql,hkl] at h1;have h2:=HSL.out;have h3:=HS5L.out;omega
       rw [hA,hQ];clear hkl hql;have HES:=Lib.hid ES;have HA:=Lib.hid hA;have HQ:=Lib.hid hQ;clear ES hA hQ
       go_wp2
       go_meet
       exact ⟨by rw [HES.out,← HA.out,← HQ.out];exact congrArg Value.string (str_app S1 _),HP3.out.set 1 _ (by
        have h9:=HP3.out.hd.set 1 (.string (str longN)) (by show 1 < 9;decide)
        rw [show h2 = { h1 with link:=longN } from by rw [← HE2.out];rfl]
        exact h9)⟩
    case rest =>
     obtain ⟨rfl,hP⟩:=hcut;have HP5:=Lib.hid hP;clear hP;have y4:=HP5.out.mem.cell 4;simp only [List.getElem?_toArray,List.getElem?_cons_zero,List.getElem?_cons_succ] at y4
     go_upto_if 67 with fail
     go_cut [4] (fun s4 wx => s4=.string (str S3)∧PM w #[.string (str m.path),.string (str m.target),.int .u8 (m.kind.toNat:Int),.int .i64 m.mode,.int .i64 (u:Int),.int .i64 (g:Int),.int .i64 (t:Int),.slice p bl c] wx h3)
     case first =>
      by_cases hx:2097151 < u
      ·have hx2:(2097151:Int) < (u:Int):=by omega
       go_wp2_with fail
       refine (dec_any u _ HUN.out.1).mono ?_
       rintro e wq ⟨rfl,hbq⟩;have HPQ:=Lib.hid (HP5.out.below hbq);clear hbq
       go_wp2_with fail
       refine (line_any (keyT 0) (decL u) _ (by have:=HTN.out.1;have:=HTN.out.2;have:=dec_le u 18 (by omega) HUN.out.1;simp [keyT];omega)).mono ?_
       rintro e w3 ⟨rfl,hb3⟩;have HP3:=Lib.hid (HPQ.out.below hb3);clear hb3;have b9:=HP3.out.hd;have z4:=b9.cell 4;have fz4:=b9.frozen 4;simp only [headC,List.getElem?_toArray,List.getElem?_cons_zero,List.getElem?_cons_succ] at z4;clear b9;have ES:S3=S2++lineD (keyT 0) (decL u):=by rw [← HD3.out];simp [hx]
       obtain ⟨A,hA⟩:∃ A:ByteArray,str (lineD (keyT 0) (decL u))=A:=⟨_,rfl⟩;obtain ⟨ka,hka⟩:∃ ka,A.size=ka:=⟨_,rfl⟩;have hkl:(lineD (keyT 0) (decL u)).length=ka:=by rw [← hka,← hA,str_size]
       obtain ⟨Q,hQ⟩:∃ Q:ByteArray,str S2=Q:=⟨_,rfl⟩;obtain ⟨kq,hkq⟩:∃ kq,Q.size=kq:=⟨_,rfl⟩;have hql:S2.length=kq:=by rw [← hkq,← hQ,str_size]
       have hsum:kq+ka≤9223372036854775807:=by
        have h1:=congrArg List.length ES;rw [List.length_append,hql,hkl] at h1;have h2:=HSL.out;have h3:=HS5L.out;omega
       rw [hA,hQ];clear hkl hql;have HES:=Lib.hid ES;have HA:=Lib.hid hA;have HQ:=Lib.hid hQ;clear ES hA hQ
       go_wp2
       go_meet
       exact ⟨by rw [HES.out,← HA.out,← HQ.out];exact congrArg Value.string (str_app S2 _),HP3.out.set 4 _ (by
        have h9:=HP3.out.hd.set 4 (.int .i64 0) (by show 4 < 9;decide)
        rw [show h3 = { h2 with uid:=0 } from by rw [← HE3.out];simp [hx]]
        exact h9)⟩
      ·have hx2:¬ (2097151:Int) < (u:Int):=by omega
       have EH:h3=h2:=by
        rw [← HE3.out,if_neg hx,← HE2.out,← HE1.out]
       have ES:S3=S2:=by rw [← HD3.out];simp [hx]
       go_wp2
       go_meet
       exact ⟨by rw [ES],by rw [EH];exact HP5.out⟩
     case rest =>
      obtain ⟨rfl,hP⟩:=hcut;have HP6:=Lib.hid hP;clear hP;have y5:=HP6.out.mem.cell 5;simp only [List.getElem?_toArray,List.getElem?_cons_zero,List.getElem?_cons_succ] at y5
      go_upto_if 81 with fail
      go_cut [4] (fun s4 wx => s4=.string (str S4)∧PM w #[.string (str m.path),.string (str m.target),.int .u8 (m.kind.toNat:Int),.int .i64 m.mode,.int .i64 (u:Int),.int .i64 (g:Int),.int .i64 (t:Int),.slice p bl c] wx h4)
      case first =>
       by_cases hx:2097151 < g
       ·have hx2:(2097151:Int) < (g:Int):=by omega
        go_wp2_with fail
        refine (dec_any g _ HUN.out.2.1).mono ?_
        rintro e wq ⟨rfl,hbq⟩;have HPQ:=Lib.hid (HP6.out.below hbq);clear hbq
        go_wp2_with fail
        refine (line_any (keyT 1) (decL g) _ (by have:=HTN.out.1;have:=HTN.out.2;have:=dec_le g 18 (by omega) HUN.out.2.1;simp [keyT];omega)).mono ?_
        rintro e w3 ⟨rfl,hb3⟩;have HP3:=Lib.hid (HPQ.out.below hb3);clear hb3;have b9:=HP3.out.hd;have z5:=b9.cell 5;have fz5:=b9.frozen 5;simp only [headC,List.getElem?_toArray,List.getElem?_cons_zero,List.getElem?_cons_succ] at z5;clear b9;have ES:S4=S3++lineD (keyT 1) (decL g):=by rw [← HD4.out];simp [hx]
        obtain ⟨A,hA⟩:∃ A:ByteArray,str (lineD (keyT 1) (decL g))=A:=⟨_,rfl⟩;obtain ⟨ka,hka⟩:∃ ka,A.size=ka:=⟨_,rfl⟩;have hkl:(lineD (keyT 1) (decL g)).length=ka:=by rw [← hka,← hA,str_size]
        obtain ⟨Q,hQ⟩:∃ Q:ByteArray,str S3=Q:=⟨_,rfl⟩;obtain ⟨kq,hkq⟩:∃ kq,Q.size=kq:=⟨_,rfl⟩;have hql:S3.length=kq:=by rw [← hkq,← hQ,str_size]
        have hsum:kq+ka≤9223372036854775807:=by
         have h1:=congrArg List.length ES;rw [List.length_append,hql,hkl] at h1;have h2:=HSL.out;have h3:=HS5L.out;omega
        rw [hA,hQ];clear hkl hql;have HES:=Lib.hid ES;have HA:=Lib.hid hA;have HQ:=Lib.hid hQ;clear ES hA hQ
        go_wp2
        go_meet
        exact ⟨by rw [HES.out,← HA.out,← HQ.out];exact congrArg Value.string (str_app S3 _),HP3.out.set 5 _ (by
         have h9:=HP3.out.hd.set 5 (.int .i64 0) (by show 5 < 9;decide)
         rw [show h4 = { h3 with gid:=0 } from by rw [← HE4.out];simp [hx]]
         exact h9)⟩
       ·have hx2:¬ (2097151:Int) < (g:Int):=by omega
        have EH:h4=h3:=by
         rw [← HE4.out,if_neg hx,← HE3.out,← HE2.out,← HE1.out]
        have ES:S4=S3:=by rw [← HD4.out];simp [hx]
        go_wp2
        go_meet
        exact ⟨by rw [ES],by rw [EH];exact HP6.out⟩
      case rest =>
       obtain ⟨rfl,hP⟩:=hcut;have HP7:=Lib.hid hP;clear hP;have y6:=HP7.out.mem.cell 6;simp only [List.getElem?_toArray,List.getElem?_cons_zero,List.getElem?_cons_succ] at y6
       go_upto_if 95 with fail
       go_cut [4] (fun s4 wx => s4=.string (str S5)∧PM w #[.string (str m.path),.string (str m.target),.int .u8 (m.kind.toNat:Int),.int .i64 m.mode,.int .i64 (u:Int),.int .i64 (g:Int),.int .i64 (t:Int),.slice p bl c] wx h5)
       case first =>
        by_cases hx:8589934591 < t
        ·have hx2:(8589934591:Int) < (t:Int):=by omega
         go_wp2_with fail
         refine (dec_any t _ HUN.out.2.2).mono ?_
         rintro e wq ⟨rfl,hbq⟩;have HPQ:=Lib.hid (HP7.out.below hbq);clear hbq
         go_wp2_with fail
         refine (line_any (keyT 2) (decL t) _ (by have:=HTN.out.1;have:=HTN.out.2;have:=dec_le t 18 (by omega) HUN.out.2.2;simp [keyT];omega)).mono ?_
         rintro e w3 ⟨rfl,hb3⟩;have HP3:=Lib.hid (HPQ.out.below hb3);clear hb3;have b9:=HP3.out.hd;have z6:=b9.cell 6;have fz6:=b9.frozen 6;simp only [headC,List.getElem?_toArray,List.getElem?_cons_zero,List.getElem?_cons_succ] at z6;clear b9;have ES:S5=S4++lineD (keyT 2) (decL t):=by rw [← HD5.out];simp [hx]
         obtain ⟨A,hA⟩:∃ A:ByteArray,str (lineD (keyT 2) (decL t))=A:=⟨_,rfl⟩;obtain ⟨ka,hka⟩:∃ ka,A.size=ka:=⟨_,rfl⟩;have hkl:(lineD (keyT 2) (decL t)).length=ka:=by rw [← hka,← hA,str_size]
         obtain ⟨Q,hQ⟩:∃ Q:ByteArray,str S4=Q:=⟨_,rfl⟩;obtain ⟨kq,hkq⟩:∃ kq,Q.size=kq:=⟨_,rfl⟩;have hql:S4.length=kq:=by rw [← hkq,← hQ,str_size]
         have hsum:kq+ka≤9223372036854775807:=by
          have h1:=congrArg List.length ES;rw [List.length_append,hql,hkl] at h1;have h2:=HSL.out;have h3:=HS5L.out;omega
         rw [hA,hQ];clear hkl hql;have HES:=Lib.hid ES;have HA:=Lib.hid hA;have HQ:=Lib.hid hQ;clear ES hA hQ
         go_wp2
         go_meet
         exact ⟨by rw [HES.out,← HA.out,← HQ.out];exact congrArg Value.string (str_app S4 _),HP3.out.set 6 _ (by
          have h9:=HP3.out.hd.set 6 (.int .i64 0) (by show 6 < 9;decide)
          rw [show h5 = { h4 with time:=0 } from by rw [← HE5.out];simp [hx]]
          exact h9)⟩
        ·have hx2:¬ (8589934591:Int) < (t:Int):=by omega
         have EH:h5=h4:=by
          rw [← HE5.out,if_neg hx,← HE4.out,← HE3.out,← HE2.out,← HE1.out]
         have ES:S5=S4:=by rw [← HD5.out];simp [hx]
         go_wp2
         go_meet
         exact ⟨by rw [ES],by rw [EH];exact HP7.out⟩
       case rest =>
        obtain ⟨rfl,hP⟩:=hcut;have HP8:=Lib.hid hP;clear hP;have hn5:(str S5).size=S5.length:=str_size S5;have he5:(str S5).toList.isEmpty=decide (S5=[]):=str_empty S5;obtain ⟨eb,heb⟩:∃ b,decide (S5=[])=b:=⟨_,rfl⟩;obtain ⟨n5,hnn⟩:∃ k,S5.length=k:=⟨_,rfl⟩;rw [heb] at he5;rw [hnn] at hn5;obtain ⟨X,hX⟩:∃ X,(if S5=[] then [] else (putR (paxH S5.length)).getD []++padB S5)=X:=⟨_,rfl⟩
        have HX:=Lib.hid hX;have HEB:=Lib.hid heb;have HN5:=Lib.hid hnn;have hn5l:n5≤1048576:=by rw [← hnn];exact HS5L.out
        clear hX heb hnn;obtain ⟨Z5,hZ5⟩:∃ Z,str S5=Z:=⟨_,rfl⟩;have HZ5:=Lib.hid hZ5;rw [hZ5] at hn5 he5 ⊢;clear hZ5
        go_upto_if 107 with fail
        go_cut [8] (fun s8 wx => OwnB wx (w.heap.size+2) s8 X.length X∧PM w #[.string (str m.path),.string (str m.target),.int .u8 (m.kind.toNat:Int),.int .i64 m.mode,.int .i64 (u:Int),.int .i64 (g:Int),.int .i64 (t:Int),.slice p bl c] wx h5)
        case first =>
         cases eb with
         | true =>
           have hs:S5=[]:=of_decide_eq_true HEB.out;have hx:X=[]:=by rw [← HX.out,if_pos hs]
           go_wp2
           go_meet
           exact ⟨by rw [hx];exact World.ownsRow_nil _ _ _ _,HP8.out⟩
         | false =>
           have hs:¬ S5=[]:=of_decide_eq_false HEB.out;obtain ⟨Hx,hx1,hx2,hx3⟩:=paxH_put (n:=n5) hn5l;have hx:X=Hx++padB S5:=by rw [← HX.out,if_neg hs,HN5.out,hx1];rfl
           have HHX:=Lib.hid (And.intro hx1 (And.intro hx2 hx));clear hs hx1 hx2 hx3 hx
           go_wp2_with fail
           refine (show Calls _ _ #[.agg #[.string ⟨#[64,112,97,120]⟩,.string ⟨#[]⟩,.int .u8 120,.int .i64 0,.int .i64 0,.int .i64 0,.int .i64 0,.int .i64 (n5:Int),.bool false]] _ (PutHPost _ (putR (paxH n5))) from rputH_any (paxH n5) (paxH_wf hn5l) (by show (4:Nat)≤_;decide) (by show (0:Nat)≤_;decide) _).mono ?_
           rintro e w3 ⟨hk3,(⟨bs,gx,hr,rfl,hrow,hge⟩ | ⟨hr,rfl⟩)⟩
           ·obtain rfl:bs=Hx:=by rw [HHX.out.1] at hr;exact (Option.some.inj hr).symm
            have HP9:=Lib.hid (HP8.out.kept hk3);have hB2:w.heap.size+2≤wc.heap.size:=by have:=HP8.out.hd.lt;omega
            have HO9:Hid (OwnB w3 (w.heap.size+2) (.slice (some ⟨gx,0,none⟩) 512 512) 512 bs):=Lib.hid (by
             have:=ownB_row hrow (Nat.le_trans hB2 hge) (by rw [HHX.out.2.1];decide)
             rw [HHX.out.2.1] at this
             exact this)
            have HB2:=Lib.hid hB2;clear hk3 hrow hge hr hB2;have hm2:Z5.size≤maxLen:=by rw [hn5];unfold maxLen;omega
            obtain ⟨hc1,hc2⟩:=str_cap w3 5 Z5 hm2;have cvb:=Lib.run_convert_string_bytes (P:=Tryd.prog) w3 9 24 5 Z5 Tryd.underlying9 Tryd.underlying24 Tryd.underlying5;have hbt:=str_bat w3 5 Z5;have hsb:=str_below w3 5 Z5;obtain ⟨w4,hw4⟩:∃ w4,bytesWorld w3 5 Z5=w4:=⟨_,rfl⟩;rw [hw4] at cvb hbt hsb;rw [hn5] at cvb hbt;have HBT:=Lib.hid hbt;have HSB:=Lib.hid hsb;have HP10:=Lib.hid (HP9.out.below hsb);have HO10:=Lib.hid (HO9.out.kept (Kept.of_below hsb noneB) (fun _ _ => id))
            clear hbt hsb hw4 hc1 hc2 hm2
            go_wp2_with fail
            refine (rpadded_any _ n5 _ S5 w4 HN5.out (by omega) (by have:=HBT.out;rw [← HZ5.out,str_data] at this;exact this)).mono ?_
            rintro e w5 ⟨v5,rfl,ho5,hk5⟩;obtain ⟨p5,c5,rfl,_,_,hb5,_,_⟩:=ho5.slice;have HP11:=Lib.hid (HP10.out.kept hk5);have HO11:=Lib.hid (HO10.out.kept hk5 (fun _ _ => id))
            have HB5:=Lib.hid hb5;have hpl5:(padB S5).length≤2000000:=by rw [padB_length,HN5.out];have:=(blocks_ge n5).2;omega
            have HPL:=Lib.hid hpl5;have hle5:w.heap.size+2≤w5.heap.size:=by have:=HP11.out.hd.lt;omega
            have HLE:=Lib.hid hle5;obtain ⟨i0,hi,hz0,hz1,hz2⟩:=info_parts infoU8;have HI:=Lib.hid hi;have HZ0:=Lib.hid hz0;have HZ1:=Lib.hid hz1;have HZ2:=Lib.hid hz2;clear ho5 hk5 hb5 cvb hpl5 hle5 hi hz0 hz1 hz2
            go_wp2_with (at_builtin;refine append_bytes rfl _ _ 24 rfl (w.heap.size+2) 5 i0 Tryd.underlying24 HI.out HZ0.out HZ1.out HZ2.out _ 512 (nums bs) rfl HO11.out p5 (padB S5).length c5 (padB S5) rfl HB5.out rfl ?d2 HLE.out ?_)
            case d2 => have:=HPL.out;omega
            intro v6 w6 hown6 hgrow6;have hk6:Kept (fun k => Value.ownBlock (.slice (some ⟨gx,0,none⟩) 512 512)=some k) w5 w6:=(Kept.refl _ w5).grown hgrow6 (fun k hk => .inr hk)
            have hgx:=(HO11.out.lt gx rfl).1
            have F:Hid (OwnB w6 (w.heap.size+2) v6 X.length X∧PM w #[.string (str m.path),.string (str m.target),.int .u8 (m.kind.toNat:Int),.int .i64 m.mode,.int .i64 (u:Int),.int .i64 (g:Int),.int .i64 (t:Int),.slice p bl c] w6 h5):=Lib.hid ⟨by
             rw [HHX.out.2.2];unfold OwnB;rw [List.length_append,HHX.out.2.1];have e:(nums (bs++padB S5)).map (Value.int .u8)=(nums bs++nums (padB S5)).map (Value.int .u8):=by unfold nums;rw [List.map_append]
             rw [e]
             first | exact hown6 | (rw [List.map_append];exact hown6),⟨HP11.out.bel.trans (hk6.below HP11.out.bel.size (fun k hk => by have h1:=Option.some.inj hk;have h1:gx=k:=h1;omega)),HP11.out.mem.keptS hk6 (fun e => by have h1:=Option.some.inj e;have h1:gx=w.heap.size:=h1;omega),HP11.out.hd.keptS hk6 (fun e => by have h1:=Option.some.inj e;have h1:gx=w.heap.size+1:=h1;omega)⟩⟩
            clear hown6 hgrow6 hk6 hgx
            go_wp2
            go_meet
            exact F.out
           ·rw [HHX.out.1] at hr
            cases hr
        case rest =>
         obtain ⟨hO,hP⟩:=hcut;have HO9:=Lib.hid hO;have HP9:=Lib.hid hP;obtain ⟨H,hh1,hh2,hh3⟩:=headM_put HG.out;rw [HH5.out] at hh1;have HHH:=Lib.hid (And.intro hh1 hh2);have hwf:=headM_wf HG.out;have htx:=headM_tx HG.out;rw [HH5.out] at hwf htx;have HWF:=Lib.hid (And.intro hwf htx);clear hO hP hh1 hh2 hh3 hwf htx hn5 he5;have b9:=HP9.out.hd;have d0:=b9.cell 0;have d1:=b9.cell 1;have d2:=b9.cell 2;have d3:=b9.cell 3;have d4:=b9.cell 4;have d5:=b9.cell 5;have d6:=b9.cell 6;have d7:=b9.cell 7;have d8:=b9.cell 8;simp only [headC,List.getElem?_toArray,List.getElem?_cons_zero,List.getElem?_cons_succ] at d0 d1 d2 d3 d4 d5 d6 d7 d8
         clear b9
         go_wp2_with fail
         refine (rputH_any h5 HWF.out.1 HWF.out.2.1 HWF.out.2.2 _).mono ?_
         rintro e w3 ⟨hk3,(⟨bs,gy,hr,rfl,hrow,hge⟩ | ⟨hr,rfl⟩)⟩
         ·obtain rfl:bs=H:=by rw [HHH.out.1] at hr;exact (Option.some.inj hr).symm
          have HP10:=Lib.hid (HP9.out.kept hk3);have HO10:=Lib.hid (HO9.out.kept hk3 (fun _ _ => id))
          have HRW:=Lib.hid hrow;have HSEP:Hid (∀ k,u8.ownBlock=some k → k≠gy):=Lib.hid (fun k hk => by have:=(HO9.out.lt k hk).2;omega)
          clear hk3 hrow hge hr d0 d1 d2 d3 d4 d5 d6 d7 d8
          go_upto_region 24 with fail
          refine wp_region_any (by kernel_rfl) (wpAny_ops (ops':=put24Ops) (by kernel_rfl) ?_)
          refine put24_region (w:=w) (w1:=w3) (w.heap.size+2) w.heap.size gy #[.string (str m.path),.string (str m.target),.int .u8 (m.kind.toNat:Int),.int .i64 m.mode,.int .i64 (u:Int),.int .i64 (g:Int),.int .i64 (t:Int),.slice p bl c] u8 X bs m.body p bl c ?a1 ?a2 ?a3 ?a4 ?a5 ?a6 ?a7 ?a8 ?a9 ?a10 ?a11 ?a12 ?a13 ?a14 ?a15 ?a16 ?a17 ?a18 ?a19 ?a20
          case a1 => exact Nat.le_refl 132
          case a2 => rfl
          case a3 => rfl
          case a4 => rfl
          case a5 => exact HP10.out.bel
          case a6 => exact HP10.out.mem
          case a7 => rfl
          case a8 => exact Nat.le_refl _
          case a9 => exact HO10.out
          case a10 => exact Nat.lt_add_of_pos_right (by decide)
          case a11 => exact HP10.out.hd.lt
          case a12 => exact Nat.le_add_right _ _
          case a13 => have:=HRW.out.bat;rw [HHH.out.2] at this;exact this
          case a14 => exact HHH.out.2
          case a15 => exact HSEP.out
          case a16 => exact HB.out
          case a17 => exact HBL.out
          case a18 => exact HBM.out
          case a19 =>
           rw [← HX.out]
           split
           ·exact Nat.zero_le _
           ·obtain ⟨Hx,hx1,hx2,_⟩:=paxH_put (n:=S5.length) HS5L.out
            rw [hx1,Option.getD_some,List.length_append,hx2,padB_length];have h1:=(blocks_ge S5.length).2;have h2:=HS5L.out;clear hn5l;omega
          intro γ w9 ho9 hb9
          have F:Hid (PadPost w (putM m) (.returned γ.v2) w9):=Lib.hid (by
           have e:putM m=(X++bs)++padB m.body:=by
            unfold putM;rw [HS5.out,HH5.out,HHH.out.1,← HX.out];simp only [Option.getD_some,List.append_assoc]
           rw [e]
           exact ⟨γ.v2,rfl,ho9.mono (Nat.le_add_right _ _),Kept.of_below hb9 noneB⟩)
          clear ho9 hb9;simp only [Exit.then]
          apply_assumption
          simp only [Act.put,List.setIfInBounds_toArray,List.set_cons_zero,List.set_cons_succ]
          go_wp2
          go_ret
          exact F.out
         ·rw [HHH.out.1] at hr
          cases hr
end Go.Proofs.YtnpkcneojilmkaaDoor.Mem
end
section
namespace Go.Proofs.YtnpkcneojilmkaaDoor.Mem
open Go.ChangeShapes Go.WideShapes Go.ChangeAt Go.RowKit Base Byt Txt Bk Hp Head Num Path Block Rec Go.Lib
set_option linter.unusedVariables false
set_option maxRecDepth 100000
theorem putM_len {m:MemV} (h:GoodM m):(putM m).length≤3000000:=by
 have hb:=(blocks_ge m.body.length).2;have hl:=(blocks_ge (linesD (recsM m)).length).2;have hq:=linesM_le h;have hq2:=h.body;obtain ⟨H,_,h2,_,(⟨_,e⟩ | ⟨X,_,x2,_,e⟩)⟩:=put_laid h
 ·rw [e,List.length_append,padB_length,h2];omega
 ·rw [e,List.length_append,List.length_append,List.length_append,padB_length,padB_length,h2,x2];omega
theorem putAllM_len:∀ (ms:List MemV),(∀ m ∈ ms,GoodM m) → (putAllM ms).length≤ms.length * 3000000
 | [],_ => Nat.zero_le _
 | m :: ms,h => by
   rw [putAllM_cons,List.length_append,List.length_cons];have h1:=putM_len (h m (List.mem_cons_self ..));have h2:=putAllM_len ms (fun x hx => h x (List.mem_cons_of_mem _ hx))
   omega
theorem takeP_succ (xs:List MP) (k:Nat) (h:k < xs.length):(xs.take (k+1)).map MP.m=(xs.take k).map MP.m++[(xs.getD k zeroP).m]:=by
 rw [List.take_succ_eq_append_getElem h,List.map_append,List.getD,List.getElem?_eq_getElem h];rfl
theorem getP_mem (xs:List MP) (k:Nat) (h:k < xs.length):xs.getD k zeroP ∈ xs:=by
 rw [List.getD,List.getElem?_eq_getElem h];exact List.getElem_mem h
end Go.Proofs.YtnpkcneojilmkaaDoor.Mem
end
section
namespace Go.Proofs.YtnpkcneojilmkaaDoor.Wr
open Go.ChangeShapes Go.WideShapes Go.ChangeAt Go.RowKit Base Byt Txt Bk Hp Head Rec Attr Mem Block Go.Lib
set_option linter.unusedVariables false
set_option maxRecDepth 100000
def Fit (xs:List MP):Prop:=∀ x ∈ xs,x.m.path.length≤1000000000000∧x.m.target.length≤1000000000000
def allG (xs:List MP):Bool:=xs.all fun x => goodD x.m
theorem allG_iff {xs:List MP}:allG xs=true ↔ ∀ x ∈ xs,goodD x.m=true:=by simp [allG]
theorem takeMP_succ (xs:List MP) (k:Nat) (h:k < xs.length):xs.take (k+1)=xs.take k++[xs.getD k zeroP]:=by
 rw [List.take_succ_eq_append_getElem h,List.getD,List.getElem?_eq_getElem h];rfl
set_option maxHeartbeats 1000000 in
theorem notGood_any (m:MemV) (p:Option Addr) (c:Nat) (w:World) (h1:m.path.length≤1000000000000) (h2:m.target.length≤1000000000000) (hN:Need w) :
 Calls Tryd.prog 26 #[.agg (memC m p c)] w fun e w' => e=.returned (.bool (!goodD m))∧Below w.heap.size w w':=by
 obtain ⟨W0,hW0⟩:∃ W0,w.alloc (.cells (memC m p c) 26)=W0:=⟨_,rfl⟩;have hB0:Below w.heap.size w W0:=by rw [← hW0];exact (Below.refl _ _).alloc (Nat.le_refl _) _
 have hG:=memGood_any m p c W0 h1 h2 (hN.below hB0).tabs;obtain ⟨r,hr⟩:∃ r,goodD m=r:=⟨_,rfl⟩;rw [hr] at hG ⊢;have HB0:=Lib.hid hB0;have HW0:=Lib.hid hW0;have HG:=Lib.hid hG;unfold memC at HW0 HG ⊢;clear hB0 hW0 hG hr
 go_enter Tryd.func26,Tryd.ntmps26
 go_wp2_with fail
 rw [HW0.out];refine HG.out.mono ?_
 rintro e w1 ⟨rfl,hb1⟩;have FIN:=Lib.hid (HB0.out.trans (hb1.mono HB0.out.size));clear hb1
 go_wp2
 go_ret
 exact ⟨rfl,FIN.out⟩
def IdxPost (xs:List MP) (w:World) (e:Ending) (w':World):Prop:=∃ k:Int,e=.returned (.int .i64 k)∧decide (0≤k)=!allG xs∧Below w.heap.size w w'
set_option maxHeartbeats 2000000 in
theorem index_any (p:Option Addr) (n c:Nat) (xs:List MP) (w:World) (h:MemsAt w p n xs) (hn:n≤100000) (hF:Fit xs) (hN:Need w) :
 Calls Tryd.prog 39 #[.slice p n c,.func (.func 26) #[] #[]] w (IdxPost xs w):=by
 have HM:=Lib.hid h;have HL:=Lib.hid h.1;have HF:=Lib.hid hF;have HN:=Lib.hid hN;clear h hF hN
 go_enter Tryd.func39,Tryd.ntmps39
 go_wp2_with fail
 go_loopw [5,8] (fun _ i wr => ∃ (j:Nat),j≤n∧i=.int .i64 (j:Int)∧Hid (∀ x ∈ xs.take j,goodD x.m=true)∧Hid (Below w.heap.size w wr)) (fun _ i _ => n - (RowKit.intOf i).toNat)
 case atStart => exact ⟨0,Nat.zero_le _,rfl,Lib.hid (by simp),Lib.hid (Below.refl _ _)⟩
 case round =>
  obtain ⟨j,hj,rfl,hA,hB⟩:=hrel
  by_cases hlt:j < n
  ·have hlx:j < xs.length:=by rw [HL.out];exact hlt
   have hmem:=getP_mem xs j hlx;have hT:=takeMP_succ xs j hlx;have hfit:=HF.out _ hmem;obtain ⟨b,o,rfl,hb,hBd,c0,c1,c2,c3,c4,c5,c6,c7⟩:=(HM.out.below hB.out).cells hlt;obtain ⟨y,hy⟩:∃ y,xs.getD j zeroP=y:=⟨_,rfl⟩;rw [hy] at hT hmem hfit hBd c0 c1 c2 c3 c4 c5 c6 c7;rw [Nat.mul_comm] at c0 c1 c2 c3 c4 c5 c6 c7;have hG:=notGood_any y.m y.p y.c wr hfit.1 hfit.2 (HN.out.below hB.out);unfold memC at hG;obtain ⟨r,hr⟩:∃ r,goodD y.m=r:=⟨_,rfl⟩;rw [hr] at hG;have HT:=Lib.hid hT;have HR:=Lib.hid hr;have HMM:=Lib.hid hmem;have HG:=Lib.hid hG;have hltz:(j:Int) < (n:Int):=by omega
   clear hT hb hy hG hr hmem hlx hfit hBd
   cases r with
   | true =>
     go_wp2_with fail
     refine HG.out.mono ?_
     rintro e w2 ⟨rfl,hb2⟩;have HB2:=Lib.hid (hB.out.trans (hb2.mono hB.out.size));clear hb2 c0 c1 c2 c3 c4 c5 c6 c7
     go_wp2
     go_roundw
     case rel => exact ⟨j+1,by omega,by go_num,Lib.hid (fun x hx => by
      rw [HT.out,List.mem_append] at hx;rcases hx with hx | hx
      ·exact hA.out x hx
      ·rw [List.mem_singleton.1 hx];exact HR.out),HB2⟩
     case measure => simp [RowKit.intOf];omega
   | false =>
     go_wp2_with fail
     refine HG.out.mono ?_
     rintro e w2 ⟨rfl,hb2⟩;have HB2:=Lib.hid (hB.out.trans (hb2.mono hB.out.size))
     have E:Hid (allG xs=false):=Lib.hid (by
      rw [Bool.eq_false_iff];intro h;have:=allG_iff.1 h _ HMM.out;rw [HR.out] at this
      cases this)
     clear hb2 c0 c1 c2 c3 c4 c5 c6 c7
     go_wp2
     go_ret
     exact ⟨(j:Int),rfl,by rw [E.out];simp,HB2.out⟩
  ·have hks:¬ ((j:Int) < (n:Int)):=by omega
   have E:Hid (allG xs=true):=Lib.hid (allG_iff.2 (fun x hx => hA.out x (by rw [List.take_of_length_le (by rw [HL.out];omega)];exact hx)))
   go_wp2
   go_ret
   exact ⟨-1,rfl,by rw [E.out];decide,hB.out⟩
set_option maxHeartbeats 1000000 in
theorem contains_any (p:Option Addr) (n c:Nat) (xs:List MP) (w:World) (h:MemsAt w p n xs) (hn:n≤100000) (hF:Fit xs) (hN:Need w) :
 Calls Tryd.prog 25 #[.slice p n c,.func (.func 26) #[] #[]] w fun e w' => e=.returned (.bool (!allG xs))∧Below w.heap.size w w':=by
 have HI:=Lib.hid (index_any p n c xs w h hn hF hN);clear h hF hN
 go_enter Tryd.func25,Tryd.ntmps25
 go_wp2_with fail
 refine HI.out.mono ?_
 rintro e w1 ⟨k,rfl,hk,hb⟩;have HB:=Lib.hid hb;clear hb
 go_wp2
 go_ret
 exact ⟨by first | rw [hk] | rfl,HB.out⟩
end Go.Proofs.YtnpkcneojilmkaaDoor.Wr
end
section
namespace Go.Proofs.YtnpkcneojilmkaaDoor.Wr
open Go.ChangeShapes Go.WideShapes Go.ChangeAt Go.RowKit Base Byt Txt Bk Hp Head Rec Attr Mem Block Go.Lib
set_option linter.unusedVariables false
set_option maxRecDepth 100000
theorem warch_bad (p:Option Addr) (n c:Nat) (xs:List MP) (w:World) (h:MemsAt w p n xs) (hn:n≤100000) (hF:Fit xs) (hA:allG xs=false) (hN:Need w) :
 Calls Tryd.prog 12 #[.slice p n c] w (NonePost w 1):=by
 have hC:=contains_any p n c xs w h hn hF hN;rw [hA] at hC;have HC:=Lib.hid hC;clear h hF hN hA hC
 go_enter Tryd.func12,Tryd.ntmps12
 go_wp2_with fail
 refine HC.out.mono ?_
 rintro e w1 ⟨rfl,hb⟩;have HB:=Lib.hid hb;clear hb
 go_wp2
 go_ret2
 exact ⟨rfl,HB.out⟩
structure ArchI (w:World) (g:Nat) (xs:List MP) (j:Nat) (wr:World):Prop where
 snk:∃ v,Snk wr g w.heap.size v (putAllM ((xs.take j).map MP.m))
 bel:Below w.heap.size w wr
theorem ArchI.below {w wr w':World} {g j:Nat} {xs:List MP} (h:ArchI w g xs j wr) (hb:Below wr.heap.size wr w'):ArchI w g xs j w':=by
 obtain ⟨v,hv⟩:=h.snk;exact ⟨⟨v,hv.kept (Kept.of_below hb noneB) id (fun _ _ => id)⟩,h.bel.trans (hb.mono h.bel.size)⟩
set_option maxHeartbeats 4000000 in
theorem warch_yes (p:Option Addr) (n c:Nat) (xs:List MP) (w:World) (h:MemsAt w p n xs) (hn:n≤4096) (hA:∀ x ∈ xs,goodD x.m=true) (hN:Need w) :
 Calls Tryd.prog 12 #[.slice p n c] w (BytesPost w (archD (xs.map MP.m))):=by
 have hgm:∀ x ∈ xs,GoodM x.m:=fun x hx => good_facts (hA x hx)
 have hC:=contains_any p n c xs w h (by omega) (fun x hx => ⟨by have:=(hgm x hx).pathL;omega,by have:=(hgm x hx).targL;omega⟩) hN
 rw [allG_iff.2 hA] at hC
 have hlen:∀ j,(putAllM ((xs.take j).map MP.m)).length≤12288000000:=fun j => by
  have:=putAllM_len ((xs.take j).map MP.m) (fun m hm => by
   obtain ⟨x,hx,rfl⟩:=List.mem_map.1 hm
   exact hgm x (List.mem_of_mem_take hx))
  rw [List.length_map,List.length_take] at this;have h1:=h.1;omega
 have hm:¬ (4096:Int) < (n:Int):=by omega
 have HC:=Lib.hid hC;have HM:=Lib.hid h;have HL:=Lib.hid h.1;have HGM:=Lib.hid hgm;have HLEN:=Lib.hid hlen;have HN:=Lib.hid hN;clear h hA hN hC hgm hlen
 go_enter Tryd.func12,Tryd.ntmps12
 go_wp2_with fail
 refine HC.out.mono ?_
 rintro e w1 ⟨rfl,hb1⟩;have HB1:=Lib.hid hb1;clear hb1
 go_wp2_with fail
 obtain ⟨w2,hw2⟩:∃ w2,w1.alloc (.cells #[.slice none 0 0] 40)=w2:=⟨_,rfl⟩;have hs2:Snk w2 w1.heap.size w.heap.size (.slice none 0 0) []:=by rw [← hw2];exact snk_made w1 _
 have hb12:Below w1.heap.size w1 w2:=by rw [← hw2];exact (Below.refl _ _).alloc (Nat.le_refl _) _
 have HI0:Hid (ArchI w w1.heap.size xs 0 w2):=Lib.hid ⟨⟨_,by simpa [putAllM] using hs2⟩,HB1.out.trans (hb12.mono HB1.out.size)⟩
 have HZ1:Hid (w.heap.size≤w1.heap.size):=Lib.hid HB1.out.size;obtain ⟨g,hg⟩:∃ g,w1.heap.size=g:=⟨_,rfl⟩;rw [hg] at HI0 HZ1 ⊢;rw [hw2];clear hs2 hb12 hw2 hg
 go_loopw [6,15] (fun _ i wr => ∃ (j:Nat),j≤n∧i=.int .i64 (j:Int)∧Hid (ArchI w g xs j wr)) (fun _ i _ => n - (RowKit.intOf i).toNat)
 case atStart => exact ⟨0,Nat.zero_le _,rfl,HI0⟩
 case round =>
  obtain ⟨j,hj,rfl,hI⟩:=hrel
  by_cases hlt:j < n
  ·have hlx:j < xs.length:=by rw [HL.out];exact hlt
   have hGy:=HGM.out _ (getP_mem xs j hlx);have hT:=takeP_succ xs j hlx;obtain ⟨b,o,rfl,hb,hBd,c0,c1,c2,c3,c4,c5,c6,c7⟩:=(HM.out.below hI.out.bel).cells hlt
   have hbat:∀ x,0 < (xs.getD j zeroP).m.body.length → (xs.getD j zeroP).p=some x → x.block < w.heap.size:=fun x h0 hx => by
    obtain ⟨b',o',he,hbw,_⟩:=(HM.out.cells hlt).choose_spec.choose_spec.2.2.1.bat.cell h0;rw [hx] at he
    cases he
    exact hbw
   obtain ⟨y,hy⟩:∃ y,xs.getD j zeroP=y:=⟨_,rfl⟩;rw [hy] at hT hGy hBd c0 c1 c2 c3 c4 c5 c6 c7 hbat;rw [Nat.mul_comm] at c0 c1 c2 c3 c4 c5 c6 c7;obtain ⟨W,hW⟩:∃ W,wr.alloc (.cells #[.string (str y.m.path),.string (str y.m.target),.int .u8 (y.m.kind.toNat:Int),.int .i64 y.m.mode,.int .i64 y.m.uid,.int .i64 y.m.gid,.int .i64 y.m.time,.slice y.p y.m.body.length y.c] 26)=W:=⟨_,rfl⟩;have hbW:Below wr.heap.size wr W:=by rw [← hW];exact (Below.refl _ _).alloc (Nat.le_refl _) _
   have hIW:=hI.out.below hbW;obtain ⟨v,hv⟩:=hIW.snk
   have hLY:=lay_any W g w.heap.size v _ hv hIW.bel.size y.m y.p y.c hGy (hBd.bat.below hbW) (fun h0 x hx e => by
    have h1:=hbat x h0 hx;have h2:=(hv.own.lt _ e).1
    omega) (by have:=HLEN.out j;omega) (HN.out.below hIW.bel)
   unfold memC at hLY;have HLY:=Lib.hid hLY;have HT:=Lib.hid hT;have HW:=Lib.hid hW;have HIW:=Lib.hid hIW;have HV:=Lib.hid hv;have hltz:(j:Int) < (n:Int):=by omega
   clear hT hb hy hLY hlx hW hbW hIW hv hbat hBd hGy
   go_upto_region 9 with fail
   rw [HW.out];have m0:W.cell? ⟨wr.heap.size,0,none⟩=some (.string (str y.m.path)):=by rw [← HW.out];exact (Blk.new wr _ _).cell 0
   have m1:W.cell? ⟨wr.heap.size,1,none⟩=some (.string (str y.m.target)):=by rw [← HW.out];exact (Blk.new wr _ _).cell 1
   have m2:W.cell? ⟨wr.heap.size,2,none⟩=some (.int .u8 (y.m.kind.toNat:Int)):=by rw [← HW.out];exact (Blk.new wr _ _).cell 2
   have m3:W.cell? ⟨wr.heap.size,3,none⟩=some (.int .i64 y.m.mode):=by rw [← HW.out];exact (Blk.new wr _ _).cell 3
   have m4:W.cell? ⟨wr.heap.size,4,none⟩=some (.int .i64 y.m.uid):=by rw [← HW.out];exact (Blk.new wr _ _).cell 4
   have m5:W.cell? ⟨wr.heap.size,5,none⟩=some (.int .i64 y.m.gid):=by rw [← HW.out];exact (Blk.new wr _ _).cell 5
   have m6:W.cell? ⟨wr.heap.size,6,none⟩=some (.int .i64 y.m.time):=by rw [← HW.out];exact (Blk.new wr _ _).cell 6
   have m7:W.cell? ⟨wr.heap.size,7,none⟩=some (.slice y.p y.m.body.length y.c):=by rw [← HW.out];exact (Blk.new wr _ _).cell 7
   go_wp2_with fail
   refine HLY.out.mono ?_
   rintro e w3 ⟨v3,rfl,hs3,hk3,hn3⟩
   have HI3:Hid (ArchI w g xs (j+1) w3):=Lib.hid ⟨⟨v3,by
    have e:putAllM ((xs.take (j+1)).map MP.m)=putAllM ((xs.take j).map MP.m)++putM y.m:=by
     rw [HT.out,putAllM_app,putAllM_cons];simp [putAllM]
    rw [e]
    exact hs3⟩,HIW.out.bel.trans (hk3.below HIW.out.bel.size (fun k hk => by
     rcases hk with hk | hk
     ·rw [hk];exact HZ1.out
     ·exact (HV.out.own.lt _ hk).1))⟩
   clear hs3 hk3 hn3 m0 m1 m2 m3 m4 m5 m6 m7 c0 c1 c2 c3 c4 c5 c6 c7
   go_wp2
   go_roundw
   case rel => exact ⟨j+1,by omega,by go_num,HI3⟩
   case measure => simp [RowKit.intOf];omega
  ·have hks:¬ ((j:Int) < (n:Int)):=by omega
   have e:xs.take j=xs:=List.take_of_length_le (by rw [HL.out];omega)
   obtain ⟨v,hv⟩:=hI.out.snk;have hl:=HLEN.out j;rw [e] at hv hl;have HE:=Lib.hid (end_any wr g w.heap.size v _ hv hI.out.bel.size (by omega))
   have HV:=Lib.hid hv;have HLL:=Lib.hid hl;clear hv hl e
   go_wp2_with fail
   refine HE.out.mono ?_
   rintro e w4 ⟨v4,rfl,hs4,hk4,_⟩;rw [← archD_eq] at hs4
   have HB4:Hid (Below w.heap.size w w4):=Lib.hid (hI.out.bel.trans (hk4.below hI.out.bel.size (fun k hk => by
    rcases hk with hk | hk
    ·rw [hk];exact HZ1.out
    ·exact (HV.out.own.lt _ hk).1)))
   have HO:=Lib.hid (out_any w4 g w.heap.size v4 _ hs4 (by rw [archD_eq,List.length_append,List.length_replicate];have:=HLL.out;omega))
   clear hs4 hk4
   go_wp2_with fail
   refine HO.out.mono ?_
   rintro e w5 ⟨v5,rfl,ho5,hk5⟩;have FIN:Hid (OwnB w5 w.heap.size v5 (archD (xs.map MP.m)).length (archD (xs.map MP.m))∧Below w.heap.size w w5):=Lib.hid ⟨ho5.mono HB4.out.size,HB4.out.trans (hk5.below HB4.out.size (fun _ h => h.elim))⟩
   clear ho5 hk5
   go_wp2
   go_ret2
   exact ⟨v5,rfl,FIN.out⟩
theorem sizeM_take (xs:List MP) (K:Nat) (hK:∀ m,GoodM m → (putM m).length≤K) (j:Nat):sizeM ((xs.take j).map MP.m)≤j * K:=by
 induction j with
 | zero => simp [sizeM]
 | succ j ih =>
   rw [Nat.succ_mul]
   by_cases hj:j < xs.length
   ·rw [takeP_succ xs j hj,sizeM_snoc]
    split
    ·rename_i hg
     have:=hK _ (good_facts hg);omega
    ·omega
   ·rw [List.take_of_length_le (by omega)] at ih ⊢
    omega
set_option maxHeartbeats 4000000 in
theorem wsize_any (p:Option Addr) (n c:Nat) (xs:List MP) (w:World) (h:MemsAt w p n xs) (hn:n≤100000) (hF:Fit xs) (hN:Need w) :
 Calls Tryd.prog 10 #[.slice p n c] w fun e w' => e=.returned (.int .i64 (sizeM (xs.map MP.m):Nat))∧Below w.heap.size w w':=by
 have hlen:∀ j,sizeM ((xs.take j).map MP.m)≤j * 3000000:=fun j => sizeM_take xs 3000000 (fun m hm => putM_le hm) j
 have HM:=Lib.hid h;have HL:=Lib.hid h.1;have HF:=Lib.hid hF;have HLEN:=Lib.hid hlen;have HN:=Lib.hid hN;clear h hF hN hlen
 go_enter Tryd.func10,Tryd.ntmps10
 go_wp2_with fail
 go_loopw [3,5,6,7,10] (fun s _ _ _ i wr => ∃ (j S:Nat),j≤n∧i=.int .i64 (j:Int)∧s=.int .i64 (S:Int)∧Hid (sizeM ((xs.take j).map MP.m)=S)∧Hid (Below w.heap.size w wr)) (fun _ _ _ _ i _ => n - (RowKit.intOf i).toNat)
 case atStart => exact ⟨0,0,Nat.zero_le _,rfl,rfl,Lib.hid (by simp [sizeM]),Lib.hid (Below.refl _ _)⟩
 case round =>
  obtain ⟨j,S,hj,rfl,rfl,hS,hB⟩:=hrel
  by_cases hlt:j < n
  ·have hlx:j < xs.length:=by rw [HL.out];exact hlt
   have hfit:=HF.out _ (getP_mem xs j hlx);have hT:=takeP_succ xs j hlx;obtain ⟨b,o,rfl,hb,hBd,c0,c1,c2,c3,c4,c5,c6,c7⟩:=(HM.out.below hB.out).cells hlt;obtain ⟨y,hy⟩:∃ y,xs.getD j zeroP=y:=⟨_,rfl⟩;rw [hy] at hT hfit hBd c0 c1 c2 c3 c4 c5 c6 c7;rw [Nat.mul_comm] at c0 c1 c2 c3 c4 c5 c6 c7;obtain ⟨W,hW⟩:∃ W,wr.alloc (.cells #[.string (str y.m.path),.string (str y.m.target),.int .u8 (y.m.kind.toNat:Int),.int .i64 y.m.mode,.int .i64 y.m.uid,.int .i64 y.m.gid,.int .i64 y.m.time,.slice y.p y.m.body.length y.c] 26)=W:=⟨_,rfl⟩;have hbW:Below wr.heap.size wr W:=by rw [← hW];exact (Below.refl _ _).alloc (Nat.le_refl _) _
   have hBW:=hB.out.trans (hbW.mono hB.out.size);have hSb:S≤j * 3000000:=by rw [← hS.out];exact HLEN.out j
   have hSb2:S≤300000000000:=by omega
   have HW:=Lib.hid hW;have HBW:=Lib.hid hBW;have HT:=Lib.hid hT;have HFT:=Lib.hid hfit;have HBD:=Lib.hid (hBd.bat.below hbW);have hltz:(j:Int) < (n:Int):=by omega
   clear hT hb hy hlx hW hbW hBW hfit hBd hSb
   go_upto_region 5 with fail
   rw [HW.out];have m0:W.cell? ⟨wr.heap.size,0,none⟩=some (.string (str y.m.path)):=by rw [← HW.out];exact (Blk.new wr _ _).cell 0
   have m1:W.cell? ⟨wr.heap.size,1,none⟩=some (.string (str y.m.target)):=by rw [← HW.out];exact (Blk.new wr _ _).cell 1
   have m2:W.cell? ⟨wr.heap.size,2,none⟩=some (.int .u8 (y.m.kind.toNat:Int)):=by rw [← HW.out];exact (Blk.new wr _ _).cell 2
   have m3:W.cell? ⟨wr.heap.size,3,none⟩=some (.int .i64 y.m.mode):=by rw [← HW.out];exact (Blk.new wr _ _).cell 3
   have m4:W.cell? ⟨wr.heap.size,4,none⟩=some (.int .i64 y.m.uid):=by rw [← HW.out];exact (Blk.new wr _ _).cell 4
   have m5:W.cell? ⟨wr.heap.size,5,none⟩=some (.int .i64 y.m.gid):=by rw [← HW.out];exact (Blk.new wr _ _).cell 5
   have m6:W.cell? ⟨wr.heap.size,6,none⟩=some (.int .i64 y.m.time):=by rw [← HW.out];exact (Blk.new wr _ _).cell 6
   have m7:W.cell? ⟨wr.heap.size,7,none⟩=some (.slice y.p y.m.body.length y.c):=by rw [← HW.out];exact (Blk.new wr _ _).cell 7
   cases hg:goodD y.m with
   | false =>
     have hP:=wput_no y.m y.p y.c W HFT.out.1 HFT.out.2 hg (HN.out.below HBW.out);unfold memC at hP;have HP:=Lib.hid hP
     have HS1:Hid (sizeM ((xs.take (j+1)).map MP.m)=S):=Lib.hid (by
      rw [HT.out,sizeM_snoc,hg,hS.out,if_neg (by simp),Nat.add_zero])
     clear hP hg
     go_wp2_with fail
     refine HP.out.mono ?_
     rintro e w3 ⟨rfl,hb3⟩;have HB3:=Lib.hid (HBW.out.trans (hb3.mono HBW.out.size));clear hb3 m0 m1 m2 m3 m4 m5 m6 m7 c0 c1 c2 c3 c4 c5 c6 c7
     go_wp2
     go_roundw
     case rel => exact ⟨j+1,S,by omega,by go_num,rfl,HS1,HB3⟩
     case measure => simp [RowKit.intOf];omega
   | true =>
     have hP:=wput_yes y.m y.p y.c W hg HBD.out (HN.out.below HBW.out);obtain ⟨k,hk⟩:∃ k,(putM y.m).length=k:=⟨_,rfl⟩;have hkl:k≤3000000:=by rw [← hk];exact putM_le (good_facts hg)
     unfold memC at hP;have HP:=Lib.hid hP;have HK:=Lib.hid hk
     have HS1:Hid (sizeM ((xs.take (j+1)).map MP.m)=S+k):=Lib.hid (by
      rw [HT.out,sizeM_snoc,hg,hS.out,if_pos rfl,hk])
     clear hP hg hk
     go_wp2_with fail
     refine HP.out.mono ?_
     rintro e w3 ⟨v3,rfl,ho3,hb3⟩;have HB3:=Lib.hid (HBW.out.trans (hb3.mono HBW.out.size));obtain ⟨p3,d3,rfl,_⟩:=ho3.slice;rw [HK.out];clear hb3 ho3 m0 m1 m2 m3 m4 m5 m6 m7 c0 c1 c2 c3 c4 c5 c6 c7
     go_wp2
     go_roundw
     case rel => exact ⟨j+1,S+k,by omega,by go_num,by go_num,HS1,HB3⟩
     case measure => simp [RowKit.intOf];omega
  ·have hks:¬ ((j:Int) < (n:Int)):=by omega
   have E:Hid (sizeM (xs.map MP.m)=S):=Lib.hid (by rw [← hS.out,List.take_of_length_le (by rw [HL.out];omega)])
   go_wp2
   go_ret
   exact ⟨by rw [E.out];rfl,hB.out⟩
end Go.Proofs.YtnpkcneojilmkaaDoor.Wr
end
section
namespace Go.Proofs.YtnpkcneojilmkaaDoor.Wr
open Go.ChangeShapes Go.WideShapes Go.ChangeAt Go.RowKit Base Byt Txt Bk Hp Head Rec Attr Mem Block Go.Lib
set_option linter.unusedVariables false
set_option maxRecDepth 100000
def sumL (ms:List MemV):Nat:=(ms.map fun m => m.body.length).sum
def okL (m:MemV):Bool:=decide (m.path.length≤2000) && (decide (m.target.length≤2000) && decide (m.body.length≤100000))
def lightD (ms:List MemV):Bool:=decide (ms.length≤60) && (ms.all okL && decide (sumL ms≤200000))
theorem sumL_snoc (ms:List MemV) (m:MemV):sumL (ms++[m])=sumL ms+m.body.length:=by simp [sumL]
theorem lightD_facts {ms:List MemV} (h:lightD ms=true):ms.length≤60∧(∀ m ∈ ms,m.path.length≤2000∧m.target.length≤2000∧m.body.length≤100000):=by
 simp only [lightD,Bool.and_eq_true,decide_eq_true_eq,List.all_eq_true,okL] at h;exact ⟨h.1,h.2.1⟩
set_option maxHeartbeats 4000000 in
theorem light_any (p:Option Addr) (n c:Nat) (xs:List MP) (w:World) (hM:MemsAt w p n xs) (hR:∀ x ∈ xs,RoomM x) :
 Calls Tryd.prog 6 #[.slice p n c] w fun e w' => e=.returned (.bool (lightD (xs.map MP.m)))∧w=w':=by
 have HM:=Lib.hid hM;have HL:=Lib.hid hM.1;have HR:=Lib.hid hR;clear hM hR
 go_enter Tryd.func6,Tryd.ntmps6
 go_wp2
 go_loop [3,4] (fun s i => ∃ (k S:Nat),k≤n∧i=.int .i64 (k:Int)∧s=.int .i64 (S:Int)∧(k=0 ∨ n≤60)∧S≤k * 100000∧Hid (sumL ((xs.take k).map MP.m)=S)∧Hid (∀ m ∈ (xs.take k).map MP.m,okL m=true)) (fun _ i => n - (RowKit.intOf i).toNat)
 case atStart => exact ⟨0,0,Nat.zero_le _,rfl,rfl,.inl rfl,Nat.zero_le _,Lib.hid rfl,Lib.hid (by simp)⟩
 case round =>
  obtain ⟨k,S,hk,rfl,rfl,hk60,hS,hE,hG⟩:=hrel
  by_cases hlt:k < n
  ·have hlx:k < xs.length:=by rw [HL.out];exact hlt
   have hT:=takeP_succ xs k hlx;have hmem:=getP_mem xs k hlx;have hrm:=HR.out _ hmem;obtain ⟨b,o,rfl,hb,hBd,c0,c1,c2,c3,c4,c5,c6,c7⟩:=HM.out.cells hlt;obtain ⟨y,hy⟩:∃ y,xs.getD k zeroP=y:=⟨_,rfl⟩;rw [hy] at hT hmem hrm hBd c0 c1 c7;rw [Nat.mul_comm] at c0 c1 c7;have hs0:(str y.m.path).size=y.m.path.length:=str_size _;have hs1:(str y.m.target).size=y.m.target.length:=str_size _;obtain ⟨pl,hpl⟩:∃ pl,y.m.path.length=pl:=⟨_,rfl⟩;obtain ⟨tl,htl⟩:∃ tl,y.m.target.length=tl:=⟨_,rfl⟩;obtain ⟨bl,hbl⟩:∃ bl,y.m.body.length=bl:=⟨_,rfl⟩;have HY:Hid (y.m.path.length=pl∧y.m.target.length=tl∧y.m.body.length=bl):=Lib.hid ⟨hpl,htl,hbl⟩
   have hblm:bl≤140737488351232:=by rw [← hbl];have:=hBd.le;have:=hrm.2.2;omega
   rw [hpl] at hs0;rw [htl] at hs1;rw [hbl] at c7;have HT:=Lib.hid hT;have HMM:Hid (y.m ∈ xs.map MP.m):=Lib.hid (List.mem_map_of_mem hmem);have hltz:(k:Int) < (n:Int):=by omega
   clear hT hb hy hlx hmem hrm hBd c2 c3 c4 c5 c6 hpl htl hbl
   by_cases h60:60 < n
   ·have E:Hid (lightD (xs.map MP.m)=false):=Lib.hid (by
     unfold lightD
     rw [List.length_map,HL.out,decide_eq_false (by omega),Bool.false_and])
    have h60i:(60:Int) < (n:Int):=by omega
    go_wp2
    go_ret
    exact ⟨by rw [E.out];rfl,rfl⟩
   ·have h60i:¬ ((60:Int) < (n:Int)):=by omega
    by_cases hok:okL y.m=true
    ·have hok2:=hok
     unfold okL at hok2;rw [HY.out.1,HY.out.2.1,HY.out.2.2] at hok2;simp only [Bool.and_eq_true,decide_eq_true_eq] at hok2;obtain ⟨a1,a2,a3⟩:=hok2;have i1:¬ (2000:Int) < (pl:Int):=by omega
     have i2:¬ (2000:Int) < (tl:Int):=by omega
     have i3:¬ (100000:Int) < (bl:Int):=by omega
     have HOK:=Lib.hid hok;have HK2:Hid (S+bl≤(k+1) * 100000):=Lib.hid (by omega)
     have hSb:S≤6000000:=by omega
     have HN60:Hid (n≤60):=Lib.hid (by omega)
     clear hok a1 a2 hk60 hS
     go_wp2
     go_round
     case rel => exact ⟨k+1,S+bl,by omega,by go_num,by go_num,.inr HN60.out,HK2.out,Lib.hid (by rw [HT.out,sumL_snoc,hE.out,HY.out.2.2]),Lib.hid (fun m hm => by
      rw [HT.out,List.mem_append] at hm;rcases hm with hm | hm
      ·exact hG.out m hm
      ·rw [List.mem_singleton.1 hm];exact HOK.out)⟩
     case measure => simp [RowKit.intOf];omega
    ·have E:Hid (lightD (xs.map MP.m)=false):=Lib.hid (by
      rw [Bool.eq_false_iff];intro h;simp only [lightD,Bool.and_eq_true,List.all_eq_true] at h
      exact hok (h.2.1 _ HMM.out))
     have hor:2000 < pl ∨ (pl≤2000∧2000 < tl) ∨ (pl≤2000∧tl≤2000∧100000 < bl):=by
      unfold okL at hok;rw [HY.out.1,HY.out.2.1,HY.out.2.2] at hok;simp only [Bool.and_eq_true,decide_eq_true_eq] at hok;omega
     clear hok hk60 hS;rcases hor with i1 | ⟨i1,i2⟩ | ⟨i1,i2,i3⟩
     ·have j1:(2000:Int) < (pl:Int):=by omega
      go_wp2
      go_ret
      exact ⟨by rw [E.out];rfl,rfl⟩
     ·have j1:¬ (2000:Int) < (pl:Int):=by omega
      have j2:(2000:Int) < (tl:Int):=by omega
      go_wp2
      go_ret
      exact ⟨by rw [E.out];rfl,rfl⟩
     ·have j1:¬ (2000:Int) < (pl:Int):=by omega
      have j2:¬ (2000:Int) < (tl:Int):=by omega
      have j3:(100000:Int) < (bl:Int):=by omega
      go_wp2
      go_ret
      exact ⟨by rw [E.out];rfl,rfl⟩
  ·have hks:¬ ((k:Int) < (n:Int)):=by omega
   have e:xs.take k=xs:=List.take_of_length_le (by rw [HL.out];omega)
   have E:Hid (lightD (xs.map MP.m)=decide (S≤200000)):=Lib.hid (by
    have h1:=hE.out;have h2:=hG.out;rw [e] at h1 h2;unfold lightD
    rw [h1,List.all_eq_true.2 h2,List.length_map,HL.out,decide_eq_true (show n≤60 by omega),Bool.true_and,Bool.true_and])
   clear e hk60 hS
   by_cases hS2:S≤200000
   ·have hS3:(S:Int)≤200000:=by omega
    have E2:Hid (lightD (xs.map MP.m)=true):=Lib.hid (by rw [E.out,decide_eq_true hS2])
    clear hS2
    go_wp2
    go_ret
    exact ⟨by rw [E2.out];rfl,rfl⟩
   ·have hS3:¬ (S:Int)≤200000:=by omega
    have hd:decide ((S:Int)≤200000)=false:=decide_eq_false hS3;have E2:Hid (lightD (xs.map MP.m)=false):=Lib.hid (by rw [E.out,decide_eq_false hS2])
    clear hS2
    go_wp2
    go_ret
    exact ⟨by rw [E2.out];rfl,rfl⟩
end Go.Proofs.YtnpkcneojilmkaaDoor.Wr
end
