/- Texts of this seat, merged: what the proof reaches. -/
import Derived.Test.YtnpkcneojilmkaaGreatDoorMemberGNUX11
import Derived.Laws.AppendOwn
import Derived.OwnWalk
import Derived.Deep.RegionHeldLaw
import Derived.Test.YtnpkcneojilmkaaGreatDoorMemberGNUX22
import Derived.Test.YtnpkcneojilmkaaGreatDoorMemberGNUX20
import Derived.Carry
import Derived.Laws.ResultCell
import Derived.Test.YtnpkcneojilmkaaGreatDoorMemberGNUX13
import Derived.Shelf.Abstract
import Derived.Laws.StructEq
import Derived.BigQuiet
section
namespace Go.Proofs.YtnpkcneojilmkaaGreatDoor.Rec
open Go.ChangeShapes Go.WideShapes Go.ChangeAt Go.RowKit Base Byt Txt Path Go.Lib
set_option linter.unusedVariables false
set_option maxRecDepth 100000
def flatR (rs:List (List UInt8 × List UInt8)):List Value:=rs.flatMap fun r => [.string (str r.1),.string (str r.2)]
theorem flatR_snoc (rs:List (List UInt8 × List UInt8)) (k v:List UInt8):flatR (rs++[(k,v)])=flatR rs++[.string (str k),.string (str v)]:=by simp [flatR]
theorem flatR_get (rs:List (List UInt8 × List UInt8)):∀ i,i < rs.length → (flatR rs)[2 * i]? = some (.string (str (rs.getD i ([],[])).1))∧(flatR rs)[2 * i+1]? = some (.string (str (rs.getD i ([],[])).2)):=by
 induction rs with
 | nil => intro i h;simp at h
 | cons r rs ih =>
   intro i h
   cases i with
   | zero => exact ⟨rfl,rfl⟩
   | succ i =>
     have:=ih i (by simpa using h)
     have e:flatR (r :: rs)=.string (str r.1) :: .string (str r.2) :: flatR rs:=rfl;rw [e,show 2 * (i+1)=2 * i+1+1 by omega]
     simpa using this
def RecsAt (w:World) (p:Option Addr) (n:Nat) (rs:List (List UInt8 × List UInt8)):Prop:=
 rs.length=n∧(0 < n → ∃ b o,p=some ⟨b,o,none⟩∧b < w.heap.size ∧ ∀ i,i < n → w.cell? ⟨b,o+2 * i,none⟩=some (.string (str (rs.getD i ([],[])).1))∧w.cell? ⟨b,o+2 * i+1,none⟩=some (.string (str (rs.getD i ([],[])).2)))
theorem RecsAt.below {w w':World} {p:Option Addr} {n:Nat} {rs:List (List UInt8 × List UInt8)} (h:RecsAt w p n rs) (hb:Below w.heap.size w w'):RecsAt w' p n rs:=by
 refine ⟨h.1,fun h0 => ?_⟩
 obtain ⟨b,o,rfl,hbw,hc⟩:=h.2 h0;refine ⟨b,o,rfl,Nat.lt_of_lt_of_le hbw hb.size,fun i hi => ⟨?_,?_⟩⟩
 ·rw [hb.cell (p:=⟨b,o+2 * i,none⟩) hbw];exact (hc i hi).1
 ·rw [hb.cell (p:=⟨b,o+2 * i+1,none⟩) hbw];exact (hc i hi).2
theorem recs_own {w:World} {base:Nat} {e:TypeId} {v:Value} {rs:List (List UInt8 × List UInt8)} (h:w.ownsRow base e 2 v rs.length (flatR rs)):∃ p c,v=.slice p rs.length c∧rs.length≤c∧c≤maxLen∧RecsAt w p rs.length rs:=by
 rcases h.2 with ⟨rfl,h0⟩ | ⟨g,cap,cur,rfl,hb,hg,hn,hc,hs,ht⟩
 ·exact ⟨none,0,by rw [h0],by omega,by decide,rfl,fun h => by omega⟩
 ·refine ⟨some ⟨g,0,none⟩,cap,rfl,hn,hc,rfl,fun h0 => ⟨g,0,rfl,(Array.getElem?_eq_some_iff.1 hg).1,fun i hi => ?_⟩⟩
  have get:∀ j,j < 2 * rs.length → w.cell? ⟨g,j,none⟩=(flatR rs)[j]?:=fun j hj => by
   unfold World.cell?;rw [hg,← ht,List.getElem?_take,if_pos (by omega)]
   simp
  obtain ⟨g1,g2⟩:=flatR_get rs i hi;rw [Nat.zero_add];exact ⟨by rw [get _ (by omega)];exact g1,by rw [get _ (by omega)];exact g2⟩
theorem infoRec:(Tryz.prog.info? 37).map (fun i => (i.zero,i.size,i.bytes))=some (some (.agg #[.string ⟨#[]⟩,.string ⟨#[]⟩]),2,32):=by kernel_rfl
theorem digN_is (l:List UInt8):∀ k,k≤l.length → (∀ j,j < k → isDig (l.getD j 0)=true) → (k=l.length ∨ isDig (l.getD k 0)=false) → digN l=k:=by
 unfold digN
 induction l with
 | nil => intro k h _ _;simp at h;simp [h]
 | cons b l ih =>
   intro k hk hd he
   cases k with
   | zero =>
     rcases he with h | h
     ·simp at h
     ·rw [List.takeWhile_cons,show isDig b=false from h];rfl
   | succ k =>
     have hb:isDig b=true:=hd 0 (by omega)
     rw [List.takeWhile_cons,hb,if_pos rfl,List.length_cons,ih k (by simpa using hk) (fun j hj => by simpa using hd (j+1) (by omega)) (by simpa using he)]
theorem mem_tw (l:List UInt8):∀ b ∈ l.takeWhile isDig,isDig b=true:=by
 induction l with
 | nil => simp
 | cons c l ih =>
   intro b hb;rw [List.takeWhile_cons] at hb
   split at hb
   ·next h =>
    rcases List.mem_cons.1 hb with rfl | h1
    ·exact h
    ·exact ih b h1
   ·cases hb
theorem digN_take (l:List UInt8):digN l≤l.length ∧ ∀ b ∈ l.take (digN l),isDig b=true:=by
 unfold digN;have hp:l.takeWhile isDig <+: l:=List.takeWhile_prefix _;refine ⟨hp.length_le,fun b hb => ?_⟩
 rw [← List.prefix_iff_eq_take.1 hp] at hb;exact mem_tw l b hb
end Go.Proofs.YtnpkcneojilmkaaGreatDoor.Rec
end
section
namespace Go.Proofs.YtnpkcneojilmkaaGreatDoor.Head
open Go.ChangeShapes Go.WideShapes Go.ChangeAt Go.RowKit Base Byt Txt Hp Go.Proofs.YtnpkcneojilmkaaGreatDoor.Mp Go.Lib
set_option linter.unusedVariables false
set_option maxRecDepth 100000
theorem iter_off {w:World} {B R g:Nat} {f:Nat → Option Value} {todo:Nat → Bool} {bs:List UInt8} (h:IterF w B R f todo) (hr:RowB w g bs):g≠B∧g≠R:=by
 obtain ⟨es,clock,since,seen,c0,hb,hs,h1,h2,hR,_⟩:=h;unfold RowB at hr;refine ⟨fun e => ?_,fun e => ?_⟩
 ·rw [e,hb] at hr;cases hr
 ·rw [e,hR] at hr;cases hr
theorem iter_ne {w:World} {B R:Nat} {f:Nat → Option Value} {todo:Nat → Bool} (h:IterF w B R f todo) (e:B=R):False:=by
 obtain ⟨es,clock,since,seen,c0,hb,hs,h1,h2,hR,_⟩:=h;rw [← e,hb] at hR
 cases hR
def mixO (todo:Nat → Bool) (a b:Nat → List UInt8):Nat → List UInt8:=fun i => if todo i=true then a i else b i
theorem mix_fits {todo:Nat → Bool} {a b:Nat → List UInt8} (ha:Fits a) (hb:Fits b):Fits (mixO todo a b):=fun i => by
 unfold mixO
 split
 ·exact ha i
 ·exact hb i
theorem mix_done {todo:Nat → Bool} {a b:Nat → List UInt8} (ha:Fits a) (hb:Fits b) (h:∀ i,i < 11 → todo i=false):mixO todo a b=b:=
 fits_ext (mix_fits ha hb) hb fun i hi => by unfold mixO;rw [if_neg (by simp [h i hi])]
theorem mix_step {todo:Nat → Bool} {a b:Nat → List UInt8} (j:Nat):upd (mixO todo a b) j (b j)=mixO (fun z => todo z && z != j) a b:=by
 funext i
 by_cases hi:i=j
 ·subst hi
  rw [upd_same,mixO,if_neg (by simp)]
 ·rw [upd_other _ _ hi,mixO,mixO]
  have:(i != j)=true:=by simpa using hi
  simp [this]
theorem partF_val (r:Nat → Nat):∀ j v,partF r j=some v → v=partV r j:=fun j v h => by
 unfold partF at h
 split at h
 ·exact (Option.some.inj h).symm
 ·cases h
theorem partF_lt {r:Nat → Nat} {j:Nat} {v:Value} (h:partF r j=some v):j < 11:=by
 unfold partF at h
 split at h
 ·assumption
 ·cases h
theorem infoSz:(Tryz.prog.info? 5).map (·.size)=some 1:=by kernel_rfl
theorem putInto_all {old cs:List UInt8} (h:cs.length=old.length):putInto old cs=cs:=by
 simp [putInto,List.drop_eq_nil_of_le (show old.length≤cs.length by omega)]
set_option maxHeartbeats 2000000 in
theorem read_any (p:Option Addr) (c:Nat) (bs:List UInt8) (w:World) (hn:bs.length=512) (hc:512≤c) (hm:c≤maxLen) (h:BAt w p 512 bs) :
 Calls Tryz.prog 72 #[.slice p 512 c] w fun e w' => ∃ B r,e=.returned (.map (some B))∧PartsAt w' w.heap.size B r (readO bs)∧Kept noneB w w':=by
 unfold maxLen at hm;obtain ⟨b,o,rfl,hbw,_⟩:=h.cell (k:=0) (by omega)
 have H:=Lib.hid h;have HN:=Lib.hid hn;clear h hn
 go_enter Tryz.func72,Tryz.ntmps72
 go_wp2_with fail
 refine (blank_any w).mono ?_
 rintro e w1 ⟨B,r,rfl,hP,hk⟩;have HP:=Lib.hid hP;have HK:=Lib.hid hk;clear hP hk;obtain ⟨R,hR⟩:∃ R,R=w1.heap.size:=⟨_,rfl⟩
 go_wp2_with (first | (at_range;refine wpList_rangeF rfl _ rfl Tryz.underlying117 B HP.out.map (fun _ => true) (fun _ _ _ => rfl) rfl R hR ?_;intro w2 HI hk2 hs2) | go_in)
 have HP2:=Lib.hid (HP.out.kept0 hk2.out);have HK2:=Lib.hid (HK.out.trans hk2.out);have HRL:Hid (w.heap.size≤R):=Lib.hid (by rw [hR];exact HK.out.size)
 clear hk2 hs2 hR
 try go_frame
 go_loopw [9] (fun _ wr => ∃ todo,Hid (IterF wr B R (partF r) todo)∧Hid (PartsAt wr w.heap.size B r (mixO todo zeroO (readO bs)))∧Hid (Kept noneB w wr)) (fun _ wr => wr.rangeLeft B R)
 case atStart => exact ⟨fun _ => true,HI,by
  have e:mixO (fun _ => true) zeroO (readO bs)=zeroO:=by funext i;exact if_pos rfl
  rw [e];exact HP2,HK2⟩
 case round =>
  obtain ⟨todo,hI,hP,hK⟩:=hrel
  go_wp2_with (at_next;refine wpList_nextF rfl _ rfl B R todo (partV r) (partF_val r) rfl hI.out ?_ ?_)
  ·intro hd
   have hall:∀ i,i < 11 → todo i=false:=fun i hi => hd i (partV r i) (by unfold partF;rw [if_pos hi])
   have HD:=Lib.hid (mix_done (todo:=todo) zeroO_fits (readO_fits HN.out) hall);clear hd hall
   go_wp2
   go_ret
   refine ⟨B,r,rfl,?_,hK.out⟩;rw [← HD.out];exact hP.out
  ·intro j w3 v hj htj HI3 HLT HK3 hs3 hen
   have hj:=partF_lt hj;have hen':(Instr.entry (.pointer (some ⟨R,0,none⟩))).run Tryz.prog w3=.ok (.tuple #[.int .i64 (j:Int),.agg #[.int .i64 (atF j),.slice (some ⟨r j,0,none⟩) (wideF j) (wideF j)]]) w3:=hen;have hw:=wide_pos hj;have hin:=field_in hj;have HJ:=Lib.hid hj;clear hen
   go_wp2_with fail
   obtain ⟨w4,hw4⟩:∃ w4,w4=w3.alloc (.cells #[.int .i64 (atF j),.slice (some ⟨r j,0,none⟩) (wideF j) (wideF j)] 122):=⟨_,rfl⟩;have hk4:Kept noneB w3 w4:=by rw [hw4];exact (Kept.refl _ _).alloc _
   have h4b:w4.heap[wr.heap.size]? = some (.cells #[.int .i64 (atF j),.slice (some ⟨r j,0,none⟩) (wideF j) (wideF j)] 122 (0,0)):=by rw [hw4,← hs3];exact heap_alloc_new _ _
   rw [← hw4];have hc0:w4.drew.cell? ⟨wr.heap.size,0,none⟩=some (.int .i64 (atF j)):=cellsAt (w:=w4) h4b 0;have hc1:w4.drew.cell? ⟨wr.heap.size,1,none⟩=some (.slice (some ⟨r j,0,none⟩) (wideF j) (wideF j)):=cellsAt (w:=w4) h4b 1;have hkR:Kept (oneB R) wr w4.drew:=HK3.out.trans (hk4.drew.of_none _);have hoff:=iter_off hI.out (hP.out.row j hj);have hP4:=hP.out.kept hkR (fun e => iter_ne hI.out e) (fun i hi e => (iter_off hI.out (hP.out.row i hi)).2 e)
   have hK4:=hK.out.then hkR (fun i hi => Or.inl (by
    have h1:i=R:=hi;rw [h1]
    exact HRL.out))
   have hI4:=HI3.out.kept (hk4.drew) id id;have hfl:(fieldB bs j).length=wideF j:=fieldB_length HN.out hj;have hrow:=hP4.row j hj
   have hsrc:BAt w4.drew (some ⟨b,o+atF j,none⟩) (fieldB bs j).length (fieldB bs j):=by
    have h1:=(H.out.below (hK4.below (Nat.le_refl _) (fun k hk => hk.elim))).drop (k:=atF j) (c:=c) (by omega) (by omega) HN.out
    rw [if_neg (by omega)] at h1
    have h2:=h1.take (k:=wideF j) (by omega)
    rw [hfl]
    simpa [WideShapes.add_plain,fieldB] using h2
   have hrow2:((mixO todo zeroO (readO bs)) j).length=wideF j:=hP4.fit j;have HP4:=Lib.hid hP4;have HK4:=Lib.hid hK4;have HI4:=Lib.hid hI4;have HOFF:=Lib.hid hoff;have HROW:=Lib.hid hrow;have HSRC:=Lib.hid hsrc;have HFL:=Lib.hid hfl;have HRL2:=Lib.hid hrow2;have HBLK:=Lib.hid h4b;have hrl:Hid (w4.drew.rangeLeft B R < wr.rangeLeft B R):=Lib.hid (by rw [hI4.2];exact HLT.out)
   clear hkR hoff hP4 hK4 hI4 hfl hrow hsrc hrow2 h4b hk4 hw4 hen'
   go_region_held_law (fun w' => w'.cell? ⟨wr.heap.size,0,none⟩=some (.int .i64 (atF j))∧w'.cell? ⟨wr.heap.size,1,none⟩=some (.slice (some ⟨r j,0,none⟩) (wideF j) (wideF j))) (first | exact ⟨hc0,hc1⟩ | exact hc5)
    (first
     | (refine step_copyB rfl _ _ 24 24 rfl 5 Tryz.underlying24 infoSz (some ⟨r j,0,none⟩) (some ⟨b,o+atF j,none⟩) (wideF j) (wideF j) (512 - atF j) (c - atF j) rfl rfl (r j) 0 (mixO todo zeroO (readO bs) j) HROW.out (fieldB bs j)
         (by rw [HFL.out];exact (Nat.min_eq_right (by omega)).symm) (fun _ => rfl) HSRC.out (by rw [HFL.out,HRL2.out];omega) ?_
        intro w5 hr5 hk5 hs5;have hk5':=Lib.hid hk5
        have hc5:w5.cell? ⟨wr.heap.size,0,none⟩=some (.int .i64 (atF j))∧w5.cell? ⟨wr.heap.size,1,none⟩=some (.slice (some ⟨r j,0,none⟩) (wideF j) (wideF j)):=by
         have h5:w5.heap[wr.heap.size]? = _:=hk5.some_ (show w4.drew.heap[wr.heap.size]? = _ from HBLK.out) (fun e => by
          have h1:wr.heap.size=r j:=e;have h2:=(hP.out.row j HJ.out).lt
          omega)
         exact ⟨cellsAt h5 0,cellsAt h5 1⟩
        clear hk5))
   simp only [List.getElem_toArray,List.getElem_cons_succ,List.getElem_cons_zero]
   go_frame
   go_wp2
   go_roundw
   case rel =>
    have hk:=hk5'.out;have hlo:=HP4.out.lo.2 j HJ.out
    refine ⟨fun z => todo z && z != j,Lib.hid (HI4.out.1.kept hk (fun e => HOFF.out.1 (Eq.symm e)) (fun e => HOFF.out.2 (Eq.symm e))).1,Lib.hid ?_,Lib.hid (HK4.out.then hk (fun i hi => Or.inl (by
     have h1:i=r j:=hi;rw [h1]
     exact hlo)))⟩
    have hw:=HP4.out.wrote HJ.out hk (l:=fieldB bs j) HFL.out (by
     have h1:=hr5.out
     rwa [splice_zero,putInto_all (by rw [HFL.out,HRL2.out])] at h1)
    have e:=mix_step (todo:=todo) (a:=zeroO) (b:=readO bs) j;rw [show readO bs j=fieldB bs j by unfold readO;rw [if_pos HJ.out]] at e
    rw [e] at hw;exact hw
   case measure =>
    have hk:=hk5'.out;have h1:=(HI4.out.1.kept hk (fun e => HOFF.out.1 (Eq.symm e)) (fun e => HOFF.out.2 (Eq.symm e))).2
    have h2:=hrl.out;omega
end Go.Proofs.YtnpkcneojilmkaaGreatDoor.Head
end
section
namespace Go.Proofs.YtnpkcneojilmkaaGreatDoor.Head
open Go.ChangeShapes Go.WideShapes Go.ChangeAt Go.RowKit Base Byt Txt Hp Go.Proofs.YtnpkcneojilmkaaGreatDoor.Mp Fp Go.Proofs.YtnpkcneojilmkaaGreatDoor.Field Go.Lib
set_option linter.unusedVariables false
set_option maxRecDepth 100000
def numF (vals:Nat → Int):Nat → Option Value:=fun i => if 1≤i∧i≤5 then some (.int .i64 (vals i)) else none
theorem numF_val (vals:Nat → Int):∀ j v,numF vals j=some v → v=.int .i64 (vals j):=fun j v h => by
 unfold numF at h
 split at h
 ·exact (Option.some.inj h).symm
 ·cases h
theorem numF_lt {vals:Nat → Int} {j:Nat} {v:Value} (h:numF vals j=some v):1≤j∧j≤5:=by
 unfold numF at h
 split at h
 ·assumption
 ·cases h
theorem numF_at (vals:Nat → Int) {j:Nat} (h1:1≤j) (h2:j≤5):numF vals j=some (.int .i64 (vals j)):=by
 unfold numF;rw [if_pos ⟨h1,h2⟩]
set_option maxHeartbeats 2000000 in
theorem numbersOf_any (n l:ByteArray) (k m u g t z:Int) (gnu:Bool) (vals:Nat → Int) (h1:vals 1=m) (h2:vals 2=u) (h3:vals 3=g) (h4:vals 4=z) (h5:vals 5=t) (w:World) :
 Calls Tryz.prog 105 #[.agg #[.string n,.string l,.int .u8 k,.int .i64 m,.int .i64 u,.int .i64 g,.int .i64 t,.int .i64 z,.bool gnu]] w fun e w' => ∃ N,e=.returned (.map (some N))∧MapF w' N (numF vals)∧w.heap.size≤N∧Kept noneB w w':=by
 obtain ⟨O,hO⟩:∃ O,O=Obj.cells #[.string n,.string l,.int .u8 k,.int .i64 m,.int .i64 u,.int .i64 g,.int .i64 t,.int .i64 z,.bool gnu] 41:=⟨_,rfl⟩;have hm0:=mapF_made (w.alloc O);rw [World.size_alloc,hO] at hm0;have HM0:=Lib.hid hm0;have hb0:((w.alloc O).alloc (.map #[] 0)).heap[w.heap.size]? = some O:=((Kept.refl noneB (w.alloc O)).alloc (.map #[] 0)).some_ (heap_alloc_new w O) id;have hk0:Kept noneB w ((w.alloc O).alloc (.map #[] 0)):=((Kept.refl noneB w).alloc O).alloc _;rw [hO] at hb0 hk0;have HB0:=Lib.hid hb0;have HK0:=Lib.hid hk0;clear hm0 hb0 hk0 hO
 have off:¬ oneB (w.heap.size+1) w.heap.size:=fun e => by
  have:w.heap.size=w.heap.size+1:=e;omega
 have OFF:=Lib.hid off
 have lo:∀ i,oneB (w.heap.size+1) i → w.heap.size≤i ∨ noneB i:=fun i hi => Or.inl (by
  have:i=w.heap.size+1:=hi
  omega)
 have LO:=Lib.hid lo;clear off lo;have mm:=@run_makeMap Tryz.prog
 go_enter Tryz.func105,Tryz.ntmps105
 go_wp2_with (refine wpList_insertF rfl _ _ _ (Or.inr rfl) Tryz.underlying124 Tryz.underlying123 (w.heap.size+1) HM0.out rfl 1 rfl rfl (.int .i64 m) rfl ?_)
 intro w1 HM1 hk1 hs1;have HB1:=Lib.hid (hk1.out.some_ HB0.out OFF.out);have HK1:=Lib.hid (HK0.out.then hk1.out LO.out)
 have c4:=cellsAt HB1.out 4;clear hk1 hs1
 go_wp2_with (refine wpList_insertF rfl _ _ _ (Or.inr rfl) Tryz.underlying124 Tryz.underlying123 (w.heap.size+1) HM1.out rfl 2 rfl rfl (.int .i64 u) rfl ?_)
 intro w2 HM2 hk2 hs2;have HB2:=Lib.hid (hk2.out.some_ HB1.out OFF.out);have HK2:=Lib.hid (HK1.out.then hk2.out LO.out)
 have c5:=cellsAt HB2.out 5;clear hk2 hs2 c4
 go_wp2_with (refine wpList_insertF rfl _ _ _ (Or.inr rfl) Tryz.underlying124 Tryz.underlying123 (w.heap.size+1) HM2.out rfl 3 rfl rfl (.int .i64 g) rfl ?_)
 intro w3 HM3 hk3 hs3;have HB3:=Lib.hid (hk3.out.some_ HB2.out OFF.out);have HK3:=Lib.hid (HK2.out.then hk3.out LO.out)
 have c6:=cellsAt HB3.out 6;clear hk3 hs3 c5
 go_wp2_with (refine wpList_insertF rfl _ _ _ (Or.inr rfl) Tryz.underlying124 Tryz.underlying123 (w.heap.size+1) HM3.out rfl 5 rfl rfl (.int .i64 t) rfl ?_)
 intro w4 HM4 hk4 hs4;have HB4:=Lib.hid (hk4.out.some_ HB3.out OFF.out);have HK4:=Lib.hid (HK3.out.then hk4.out LO.out)
 have c7:=cellsAt HB4.out 7;clear hk4 hs4 c6
 go_wp2_with (refine wpList_insertF rfl _ _ _ (Or.inr rfl) Tryz.underlying124 Tryz.underlying123 (w.heap.size+1) HM4.out rfl 4 rfl rfl (.int .i64 z) rfl ?_)
 intro w5 HM5 hk5 hs5;have HK5:=Lib.hid (HK4.out.then hk5.out LO.out)
 clear hk5 hs5 c7
 go_wp2
 go_ret
 refine ⟨_,rfl,?_,by omega,HK5.out⟩
 have e:(numF vals)=fun y => if y=4 then some (Value.int .i64 z) else if y=5 then some (Value.int .i64 t) else if y=3 then some (Value.int .i64 g) else if y=2 then some (Value.int .i64 u) else if y=1 then some (Value.int .i64 m) else none:=by
  funext y
  unfold numF
  match y with
  | 0 => rfl
  | 1 => rw [h1];rfl
  | 2 => rw [h2];rfl
  | 3 => rw [h3];rfl
  | 4 => rw [h4];rfl
  | 5 => rw [h5];rfl
  | y+6 => rw [if_neg (by omega),if_neg (by omega),if_neg (by omega),if_neg (by omega),if_neg (by omega),if_neg (by omega)]
 rw [e];exact HM5.out
def numsO (own:Nat → List UInt8):Bool:=(List.range 5).all fun i => okI (parseF (own (i+1)))
theorem numsO_iff {own:Nat → List UInt8}:numsO own=true ↔ ∀ i,1≤i → i≤5 → okI (parseF (own i))=true:=by
 unfold numsO;rw [List.all_eq_true];constructor
 ·intro h i h1 h2
  have:=h (i - 1) (List.mem_range.2 (by omega))
  rwa [show i - 1+1=i by omega] at this
 ·intro h i hi
  have:=List.mem_range.1 hi;exact h (i+1) (by omega) (by omega)
def NumsPost (w:World) (own:Nat → List UInt8) (e:Ending) (w':World):Prop:=
 Kept noneB w w'∧((numsO own=true ∧ ∃ Q,e=.returned (.tuple #[.map (some Q),.bool true])∧MapF w' Q (numF fun i => valI (parseF (own i)))) ∨ (numsO own=false∧e=.returned (.tuple #[.map none,.bool false])))
set_option maxHeartbeats 2000000 in
theorem numbers_any (lo B:Nat) (r:Nat → Nat) (own:Nat → List UInt8) (w:World) (hP0:PartsAt w lo B r own) :
 Calls Tryz.prog 75 #[.map (some B)] w (NumsPost w own):=by
 have fl:=field_own;have HP0:=Lib.hid hP0;have hm0:=mapF_made w;have HM0:=Lib.hid hm0;have HK0:=Lib.hid ((Kept.refl noneB w).alloc (.map #[] 0));clear hP0 hm0;have mm:=@run_makeMap Tryz.prog
 go_enter Tryz.func75,Tryz.ntmps75
 go_wp2_with fail
 refine (numbersOf_any ⟨#[]⟩ ⟨#[]⟩ 0 0 0 0 0 0 false (fun _ => 0) rfl rfl rfl rfl rfl _).mono ?_
 rintro e w1 ⟨N,rfl,hN,hNl,hk1⟩;have HN:=Lib.hid hN;have HNL:Hid (N≠w.heap.size):=Lib.hid (by rw [World.size_alloc] at hNl;omega)
 have HQ1:=Lib.hid (HM0.out.kept hk1 id);have HP1:=Lib.hid ((HP0.out.kept0 HK0.out).kept0 hk1);have HK1:=Lib.hid (HK0.out.trans hk1);clear hN hNl hk1;obtain ⟨R,hR⟩:∃ R,R=w1.heap.size:=⟨_,rfl⟩
 go_wp2_with (first | (at_range;refine wpList_rangeF rfl _ rfl Tryz.underlying124 N HN.out (fun _ => true) (fun _ _ _ => rfl) rfl R hR ?_;intro w2 HI hk2 hs2) | go_in)
 have HK2:=Lib.hid (HK1.out.trans hk2.out);have HP2:=Lib.hid (HP1.out.kept0 hk2.out);have HQ2:=Lib.hid (HQ1.out.kept hk2.out id)
 have HRL:Hid (w.heap.size < R):=Lib.hid (by
  have:=HQ1.out.lt
  omega)
 clear hk2 hs2 hR
 try go_frame
 go_loopw [12] (fun _ wr => ∃ todo,Hid (IterF wr N R (numF fun _ => 0) todo)∧Hid (PartsAt wr lo B r own)∧Hid (MapF wr w.heap.size (fun i => if todo i=true then none else numF (fun i => valI (parseF (own i))) i))∧Hid (Kept noneB w wr)∧Hid (∀ i,1≤i → i≤5 → todo i=false → okI (parseF (own i))=true)) (fun _ wr => wr.rangeLeft N R)
 case atStart => exact ⟨fun _ => true,HI,HP2,by
  have e:(fun i => if true=true then none else numF (fun i => valI (parseF (own i))) i)=fun _ => (none:Option Value):=by funext i;rfl
  rw [e];exact HQ2,HK2,Lib.hid (fun i _ _ h => by cases h)⟩
 case round =>
  obtain ⟨todo,hI,hP,hQ,hK,hD⟩:=hrel
  go_wp2_with (at_next;refine wpList_nextF rfl _ rfl N R todo (fun _ => .int .i64 0) (numF_val _) rfl hI.out ?_ ?_)
  ·intro hd
   have hall:∀ i,1≤i → i≤5 → todo i=false:=fun i h1 h2 => hd i (.int .i64 0) (numF_at _ h1 h2)
   have HE:Hid (numsO own=true∧(fun i => if todo i=true then none else numF (fun i => valI (parseF (own i))) i)=numF fun i => valI (parseF (own i))):=Lib.hid ⟨numsO_iff.2 fun i h1 h2 => hD.out i h1 h2 (hall i h1 h2),by
    funext i
    split
    ·rename_i ht
     unfold numF;rw [if_neg];rintro ⟨h1,h2⟩;rw [hall i h1 h2] at ht
     cases ht
    ·rfl⟩
   clear hd hall
   go_wp2
   go_ret2
   refine ⟨hK.out,Or.inl ⟨HE.out.1,_,rfl,?_⟩⟩;have h1:=hQ.out;rw [HE.out.2] at h1;exact h1
  ·intro j w3 v hj htj HI3 HLT HK3 hs3 hen
   have hj:=numF_lt hj;obtain ⟨hj1,hj5⟩:=hj;have hj11:j < 11:=by omega
   have hP3:=hP.out.kept HK3.out (fun e => by
    have h1:=hP.out.map;have h2:=hI.out;obtain ⟨es,clock,hb,_⟩:=h1;obtain ⟨_,_,_,_,_,_,_,_,_,hr,_⟩:=h2;have e:B=R:=e;rw [← e,hb] at hr
    cases hr) (fun i hi e => (iter_off hI.out (hP.out.row i hi)).2 e)
   have hQ3:=hQ.out.kept HK3.out (fun e => by
    have e:w.heap.size=R:=e;have:=HRL.out
    omega)
   have hK3:=hK.out.then HK3.out (fun i hi => Or.inl (by
    have h1:i=R:=hi;have:=HRL.out
    omega))
   have lk:(Instr.lookup 117 (.map (some B)) (.int .i64 (j:Int)) false).run Tryz.prog w3=.ok (.agg #[.int .i64 (atF j),.slice (some ⟨r j,0,none⟩) (wideF j) (wideF j)]) w3:=
    hP3.map.look (P:=Tryz.prog) Tryz.underlying117 Tryz.underlying123 (x:=j) (v:=partV r j) (by unfold partF;rw [if_pos hj11])
   have hw:=wide_pos hj11;have HJ:=Lib.hid hj11;have HP3:=Lib.hid hP3;have HQ3:=Lib.hid hQ3;have HKK:=Lib.hid hK3;have HW:=Lib.hid hw;have HTJ:=Lib.hid htj;have HJ1:Hid (1≤j∧j≤5):=Lib.hid ⟨hj1,hj5⟩;clear hP3 hQ3 hK3 hw htj
   go_wp2_with fail
   refine (parse_any _ (wideF j) (wideF j) (own j) w3 (HP3.out.fit j) (Nat.le_refl _) (by have:=HW.out;unfold maxLen;omega) (HP3.out.bat HJ.out)).mono ?_
   rintro e w4 ⟨rfl,hb4⟩;have hk4:Kept noneB w3 w4:=Kept.of_below hb4 _;have HP4:=Lib.hid (HP3.out.kept0 hk4);have HQ4:=Lib.hid (HQ3.out.kept hk4 id);have HK4:=Lib.hid (HKK.out.trans hk4);have hI4:=HI3.out.kept hk4 id id;have HI4:=Lib.hid hI4.1;have HL4:Hid (w4.rangeLeft N R < wr.rangeLeft N R):=Lib.hid (by rw [hI4.2];exact HLT.out)
   clear hb4 hk4 hI4 lk
   by_cases hok:okI (parseF (own j))=true
   ·have HOK:=Lib.hid hok
    rw [hok];clear hok
    go_wp2_with (first | (at_mapUpdate;refine wpList_insertF rfl _ _ _ (Or.inl rfl) Tryz.underlying124 Tryz.underlying123 w.heap.size HQ4.out rfl j rfl (by rw [HTJ.out];rfl) (.int .i64 (valI (parseF (own j)))) rfl ?_;intro w5 HQ5 hk5 hs5) | go_in)
    try go_frame
    try go_wp2
    go_roundw
    case rel =>
     have hI5:=HI4.out.kept hk5.out HNL.out (fun e => by
      have e:R=w.heap.size:=e;have:=HRL.out
      omega)
     refine ⟨fun z => todo z && z != j,Lib.hid hI5.1,Lib.hid (HP4.out.kept hk5.out (fun e => ?_) (fun i hi e => ?_)),Lib.hid ?_,Lib.hid (HK4.out.then hk5.out (fun i hi => Or.inl (by
      have h1:i=w.heap.size:=hi
      omega))),Lib.hid (fun i h1 h2 ht => ?_)⟩
     ·have e:B=w.heap.size:=e
      have:=HP0.out.map.lt;omega
     ·have e:r i=w.heap.size:=e
      have:=(HP0.out.row i hi).lt;omega
     ·have h1:=HQ5.out
      have e:(fun y => if y=j then some (Value.int .i64 (valI (parseF (own j)))) else if todo y=true then none else numF (fun i => valI (parseF (own i))) y)=fun i => if (todo i && i != j)=true then none else numF (fun i => valI (parseF (own i))) i:=by
       funext y
       by_cases hy:y=j
       ·subst hy
        rw [if_pos rfl,if_neg (by simp),numF_at _ HJ1.out.1 HJ1.out.2]
       ·have h2:(y != j)=true:=by simpa using hy
        rw [if_neg hy,h2,Bool.and_true]
      rw [e] at h1;exact h1
     ·by_cases hij:i=j
      ·rw [hij];exact HOK.out
      ·have h3:(i != j)=true:=by simpa using hij
       have ht:(todo i && i != j)=false:=ht;rw [h3,Bool.and_true] at ht;exact hD.out i h1 h2 ht
    case measure =>
     have hI5:=HI4.out.kept hk5.out HNL.out (fun e => by
      have e:R=w.heap.size:=e;have:=HRL.out
      omega)
     have h1:=HL4.out;have h2:=hI5.2;omega
   ·have hok':okI (parseF (own j))=false:=by simpa using hok
    have HE:Hid (numsO own=false):=Lib.hid (by
     cases hc:numsO own with
     | false => rfl
     | true => exact absurd (numsO_iff.1 hc j HJ1.out.1 HJ1.out.2) hok)
    rw [hok'];clear hok hok'
    go_wp2
    go_ret2
    exact ⟨HK4.out,Or.inr ⟨HE.out,rfl⟩⟩
end Go.Proofs.YtnpkcneojilmkaaGreatDoor.Head
end
section
namespace Go.Proofs.YtnpkcneojilmkaaGreatDoor.Head
open Go.ChangeShapes Go.WideShapes Go.ChangeAt Go.RowKit Base Byt Txt Hp Go.Proofs.YtnpkcneojilmkaaGreatDoor.Mp Fp Go.Proofs.YtnpkcneojilmkaaGreatDoor.Field Go.Lib
set_option linter.unusedVariables false
set_option maxRecDepth 100000
theorem ret_head {fn:Func} (hf:fn.results=#[.cell 2 41,.tmp 3]) (tmps:Array Value) (w:World) (g:Nat) (v:Value) (ht:tmps.getD 2 undef=.pointer (some ⟨g,0,none⟩)) (hv:tmps.getD 3 undef=v)
 (a b:ByteArray) (k m u i t z:Int) (n:Bool) (h:w.heap[g]? = some (.cells #[.string a,.string b,.int .u8 k,.int .i64 m,.int .i64 u,.int .i64 i,.int .i64 t,.int .i64 z,.bool n] 41 (0,0))) :
 (results fn tmps).run Tryz.prog w=.ok (.tuple #[.agg #[.string a,.string b,.int .u8 k,.int .i64 m,.int .i64 u,.int .i64 i,.int .i64 t,.int .i64 z,.bool n],v]) w:=by
 rw [results_cell_tmp hf,ht,hv];have hl:=load_head w g a b k m u i t z n h;simp [asAddr,hl,Result.andThen]
theorem lookB {w:World} {lo B:Nat} {r:Nat → Nat} {own:Nat → List UInt8} (h:PartsAt w lo B r own) (i:Nat) (hi:i < 11) :
 (Instr.lookup 117 (.map (some B)) (.int .i64 (i:Int)) false).run Tryz.prog w=.ok (.agg #[.int .i64 (atF i),.slice (some ⟨r i,0,none⟩) (wideF i) (wideF i)]) w:=
 h.map.look (P:=Tryz.prog) Tryz.underlying117 Tryz.underlying123 (x:=i) (v:=partV r i) (by unfold partF;rw [if_pos hi])
theorem numsO_read (bs:List UInt8):numsO (readO bs)=numsOkB bs:=by
 have e:∀ i,1≤i → i≤5 → readO bs i=fieldB bs i:=fun i h1 h2 => if_pos (by omega)
 cases h:numsOkB bs with
 | true =>
   refine numsO_iff.2 fun i h1 h2 => ?_
   rw [e i h1 h2];exact numsOkB_iff.1 h i h1 h2
 | false =>
   cases h2:numsO (readO bs) with
   | false => rfl
   | true =>
     have h5:numsOkB bs=true:=numsOkB_iff.2 fun i h3 h4 => by
      rw [← e i h3 h4];exact numsO_iff.1 h2 i h3 h4
     rw [h] at h5
     cases h5
theorem readO_at (bs:List UInt8) (i:Nat) (hi:i < 11):readO bs i=fieldB bs i:=if_pos hi
def zeroCs:Array Value:=#[.string ⟨#[]⟩,.string ⟨#[]⟩,.int .u8 0,.int .i64 0,.int .i64 0,.int .i64 0,.int .i64 0,.int .i64 0,.bool false]
theorem stored9 {w:World} {g:Nat} {e:TypeId} (h:w.heap[g]? = some (.cells zeroCs e (0,0))) (v0 v1 v2 v3 v4 v5 v6 v7 v8:Value) :
 (((((((((w.setCell ⟨g,0,none⟩ v0).setCell ⟨g,1,none⟩ v1).setCell ⟨g,2,none⟩ v2).setCell ⟨g,3,none⟩ v3).setCell ⟨g,4,none⟩ v4).setCell ⟨g,5,none⟩ v5).setCell ⟨g,6,none⟩ v6).setCell ⟨g,7,none⟩ v7).setCell ⟨g,8,none⟩ v8).heap[g]? =
   some (.cells #[v0,v1,v2,v3,v4,v5,v6,v7,v8] e (0,0)):=by
 have st:∀ {w:World} {cs:Array Value} (i:Nat) (v:Value),w.heap[g]? = some (.cells cs e (0,0)) → (w.setCell ⟨g,i,none⟩ v).heap[g]? = some (.cells (cs.setIfInBounds i v) e (0,0)):=by
  intro w cs i v h;rw [setCell_eq_setRow w g i _ _ _ _ h];exact setRow_heap w g _ _ _ _ h
 have h0:(w.setCell ⟨g,0,none⟩ v0).heap[g]? = some (.cells #[v0,.string ⟨#[]⟩,.int .u8 0,.int .i64 0,.int .i64 0,.int .i64 0,.int .i64 0,.int .i64 0,.bool false] e (0,0)):=st 0 v0 h;have h1:((w.setCell ⟨g,0,none⟩ v0).setCell ⟨g,1,none⟩ v1).heap[g]? = some (.cells #[v0,v1,.int .u8 0,.int .i64 0,.int .i64 0,.int .i64 0,.int .i64 0,.int .i64 0,.bool false] e (0,0)):=st 1 v1 h0;have h2:(((w.setCell ⟨g,0,none⟩ v0).setCell ⟨g,1,none⟩ v1).setCell ⟨g,2,none⟩ v2).heap[g]? = some (.cells #[v0,v1,v2,.int .i64 0,.int .i64 0,.int .i64 0,.int .i64 0,.int .i64 0,.bool false] e (0,0)):=st 2 v2 h1
 have h3:((((w.setCell ⟨g,0,none⟩ v0).setCell ⟨g,1,none⟩ v1).setCell ⟨g,2,none⟩ v2).setCell ⟨g,3,none⟩ v3).heap[g]? = some (.cells #[v0,v1,v2,v3,.int .i64 0,.int .i64 0,.int .i64 0,.int .i64 0,.bool false] e (0,0)):=st 3 v3 h2;have h4:(((((w.setCell ⟨g,0,none⟩ v0).setCell ⟨g,1,none⟩ v1).setCell ⟨g,2,none⟩ v2).setCell ⟨g,3,none⟩ v3).setCell ⟨g,4,none⟩ v4).heap[g]? = some (.cells #[v0,v1,v2,v3,v4,.int .i64 0,.int .i64 0,.int .i64 0,.bool false] e (0,0)):=st 4 v4 h3;have h5:((((((w.setCell ⟨g,0,none⟩ v0).setCell ⟨g,1,none⟩ v1).setCell ⟨g,2,none⟩ v2).setCell ⟨g,3,none⟩ v3).setCell ⟨g,4,none⟩ v4).setCell ⟨g,5,none⟩ v5).heap[g]? = some (.cells #[v0,v1,v2,v3,v4,v5,.int .i64 0,.int .i64 0,.bool false] e (0,0)):=st 5 v5 h4
 have h6:(((((((w.setCell ⟨g,0,none⟩ v0).setCell ⟨g,1,none⟩ v1).setCell ⟨g,2,none⟩ v2).setCell ⟨g,3,none⟩ v3).setCell ⟨g,4,none⟩ v4).setCell ⟨g,5,none⟩ v5).setCell ⟨g,6,none⟩ v6).heap[g]? = some (.cells #[v0,v1,v2,v3,v4,v5,v6,.int .i64 0,.bool false] e (0,0)):=st 6 v6 h5;have h7:((((((((w.setCell ⟨g,0,none⟩ v0).setCell ⟨g,1,none⟩ v1).setCell ⟨g,2,none⟩ v2).setCell ⟨g,3,none⟩ v3).setCell ⟨g,4,none⟩ v4).setCell ⟨g,5,none⟩ v5).setCell ⟨g,6,none⟩ v6).setCell ⟨g,7,none⟩ v7).heap[g]? = some (.cells #[v0,v1,v2,v3,v4,v5,v6,v7,.bool false] e (0,0)):=st 7 v7 h6
 have h8:(((((((((w.setCell ⟨g,0,none⟩ v0).setCell ⟨g,1,none⟩ v1).setCell ⟨g,2,none⟩ v2).setCell ⟨g,3,none⟩ v3).setCell ⟨g,4,none⟩ v4).setCell ⟨g,5,none⟩ v5).setCell ⟨g,6,none⟩ v6).setCell ⟨g,7,none⟩ v7).setCell ⟨g,8,none⟩ v8).heap[g]? = some (.cells #[v0,v1,v2,v3,v4,v5,v6,v7,v8] e (0,0)):=st 8 v8 h7;exact h8
theorem kept9 {w0 w:World} {g:Nat} (h:Kept (oneB g) w0 w) (v0 v1 v2 v3 v4 v5 v6 v7 v8:Value) :
 Kept (oneB g) w0 (((((((((w.setCell ⟨g,0,none⟩ v0).setCell ⟨g,1,none⟩ v1).setCell ⟨g,2,none⟩ v2).setCell ⟨g,3,none⟩ v3).setCell ⟨g,4,none⟩ v4).setCell ⟨g,5,none⟩ v5).setCell ⟨g,6,none⟩ v6).setCell ⟨g,7,none⟩ v7).setCell ⟨g,8,none⟩ v8):=by
 have st:∀ {w:World} (i:Nat) (v:Value),Kept (oneB g) w0 w → Kept (oneB g) w0 (w.setCell ⟨g,i,none⟩ v):=fun i v h => h.setCell (a:=⟨g,i,none⟩) (Or.inr (show oneB g g from rfl)) v
 exact st 8 v8 (st 7 v7 (st 6 v6 (st 5 v5 (st 4 v4 (st 3 v3 (st 2 v2 (st 1 v1 (st 0 v0 h))))))))
theorem ustar_str:str ustarB=⟨#[117,115,116,97,114,0,48,48]⟩:=rfl
theorem gnu_str:str gnuB=⟨#[117,115,116,97,114,32,32,0]⟩:=rfl
end Go.Proofs.YtnpkcneojilmkaaGreatDoor.Head
end
section
namespace Go.Proofs.YtnpkcneojilmkaaGreatDoor.Head
open Go.ChangeShapes Go.WideShapes Go.ChangeAt Go.RowKit Base Byt Txt Hp Go.Proofs.YtnpkcneojilmkaaGreatDoor.Mp Go.Lib
set_option linter.unusedVariables false
set_option maxRecDepth 100000
noncomputable def parseOps:Array Oper:=regionAt Tryz.f54 13
def pV (B Q:Nat) (mg nm ln:ByteArray) (gnu:Bool) (kd v1 v2 v3 v4 v5:Int):Nat → Value
 | 0 => .map (some B) | 1 => .string mg | 2 => .bool gnu | 3 => .string nm | 4 => .map (some B) | 5 => .string ln | 6 => .map (some B) | 7 => .int .u8 kd
 | 8 => .map (some Q) | 9 => .int .i64 v1 | 10 => .map (some Q) | 11 => .int .i64 v2 | 12 => .map (some Q) | 13 => .int .i64 v3 | 14 => .map (some Q) | 15 => .int .i64 v5
 | 16 => .agg #[.int .i64 v1,.int .i64 v2,.int .i64 v3,.int .i64 v5] | 17 => .map (some Q) | 18 => .int .i64 v4 | 19 => .string mg | 20 => .bool gnu
 | 21 => .agg #[.string nm,.string ln,.int .u8 kd,.int .i64 v1,.int .i64 v2,.int .i64 v3,.int .i64 v5,.int .i64 v4,.bool gnu] | 23 => .int .i64 0 | _ => undef
theorem parse_size:parseOps.size=24:=rfl
theorem parse_apart:apartB parseOps 73=true:=by kernel_rfl
theorem pop0:∃ o,parseOps[0]? = some o∧o.op=.move (.tmp 4)∧o.dst=some 51:=⟨_,rfl,rfl,rfl⟩
theorem pop1:∃ o,parseOps[1]? = some o∧o.op=.move (.tmp 7)∧o.dst=some 52:=⟨_,rfl,rfl,rfl⟩
theorem pop2:∃ o,parseOps[2]? = some o∧o.op=.binOp .eql 9 (.tmp 52) (.const (.string ⟨#[117,115,116,97,114,32,32,0]⟩)) 9∧o.dst=some 53:=⟨_,rfl,rfl,rfl⟩
theorem pop3:∃ o,parseOps[3]? = some o∧o.op=.call { callee:=.value (.func 76),args:=#[.tmp 51,.tmp 53],argTypes:=#[117,4] }∧o.dst=some 54:=⟨_,rfl,rfl,rfl⟩
theorem pop4:∃ o,parseOps[4]? = some o∧o.op=.move (.tmp 4)∧o.dst=some 55:=⟨_,rfl,rfl,rfl⟩
theorem pop5:∃ o,parseOps[5]? = some o∧o.op=.call { callee:=.value (.func 77),args:=#[.tmp 55,.const (.int .i64 8)],argTypes:=#[117,123] }∧o.dst=some 56:=⟨_,rfl,rfl,rfl⟩
theorem pop6:∃ o,parseOps[6]? = some o∧o.op=.move (.tmp 4)∧o.dst=some 57:=⟨_,rfl,rfl,rfl⟩
theorem pop7:∃ o,parseOps[7]? = some o∧o.op=.call { callee:=.value (.func 78),args:=#[.tmp 57],argTypes:=#[117] }∧o.dst=some 58:=⟨_,rfl,rfl,rfl⟩
theorem pop8:∃ o,parseOps[8]? = some o∧o.op=.move (.tmp 8)∧o.dst=some 59:=⟨_,rfl,rfl,rfl⟩
theorem pop9:∃ o,parseOps[9]? = some o∧o.op=.lookup 124 (.tmp 59) (.const (.int .i64 1)) false∧o.dst=some 60:=⟨_,rfl,rfl,rfl⟩
theorem pop10:∃ o,parseOps[10]? = some o∧o.op=.move (.tmp 8)∧o.dst=some 61:=⟨_,rfl,rfl,rfl⟩
theorem pop11:∃ o,parseOps[11]? = some o∧o.op=.lookup 124 (.tmp 61) (.const (.int .i64 2)) false∧o.dst=some 62:=⟨_,rfl,rfl,rfl⟩
theorem pop12:∃ o,parseOps[12]? = some o∧o.op=.move (.tmp 8)∧o.dst=some 63:=⟨_,rfl,rfl,rfl⟩
theorem pop13:∃ o,parseOps[13]? = some o∧o.op=.lookup 124 (.tmp 63) (.const (.int .i64 3)) false∧o.dst=some 64:=⟨_,rfl,rfl,rfl⟩
theorem pop14:∃ o,parseOps[14]? = some o∧o.op=.move (.tmp 8)∧o.dst=some 65:=⟨_,rfl,rfl,rfl⟩
theorem pop15:∃ o,parseOps[15]? = some o∧o.op=.lookup 124 (.tmp 65) (.const (.int .i64 5)) false∧o.dst=some 66:=⟨_,rfl,rfl,rfl⟩
theorem pop16:∃ o,parseOps[16]? = some o∧o.op=.build 23 #[(0,.tmp 60),(1,.tmp 62),(2,.tmp 64),(3,.tmp 66)]∧o.dst=some 67:=⟨_,rfl,rfl,rfl⟩
theorem pop17:∃ o,parseOps[17]? = some o∧o.op=.move (.tmp 8)∧o.dst=some 68:=⟨_,rfl,rfl,rfl⟩
theorem pop18:∃ o,parseOps[18]? = some o∧o.op=.lookup 124 (.tmp 68) (.const (.int .i64 4)) false∧o.dst=some 69:=⟨_,rfl,rfl,rfl⟩
theorem pop19:∃ o,parseOps[19]? = some o∧o.op=.move (.tmp 7)∧o.dst=some 70:=⟨_,rfl,rfl,rfl⟩
theorem pop20:∃ o,parseOps[20]? = some o∧o.op=.binOp .eql 9 (.tmp 70) (.const (.string ⟨#[117,115,116,97,114,32,32,0]⟩)) 9∧o.dst=some 71:=⟨_,rfl,rfl,rfl⟩
theorem pop21:∃ o,parseOps[21]? = some o∧o.op=.build 41 #[(0,.tmp 54),(1,.tmp 56),(2,.tmp 58),(3,.tmp 67),(4,.tmp 69),(5,.tmp 71)]∧o.dst=some 72:=⟨_,rfl,rfl,rfl⟩
theorem pop22:∃ o,parseOps[22]? = some o∧o.op=.store 41 (.tmp 2) (.tmp 72)∧o.dst=none:=⟨_,rfl,rfl,rfl⟩
theorem pop23:∃ o,parseOps[23]? = some o∧o.op=.assign (.const (.int .i64 0))∧o.dst=some 3:=⟨_,rfl,rfl,rfl⟩
theorem build_meta (w:World) (a b c d:Int):(Instr.build 23 #[(0,.int .i64 a),(1,.int .i64 b),(2,.int .i64 c),(3,.int .i64 d)]).run Tryz.prog w=.ok (.agg #[.int .i64 a,.int .i64 b,.int .i64 c,.int .i64 d]) w:=by kernel_rfl
theorem build_head (w:World) (n l:ByteArray) (k a b c d s:Int) (g:Bool):(Instr.build 41 #[(0,.string n),(1,.string l),(2,.int .u8 k),(3,.agg #[.int .i64 a,.int .i64 b,.int .i64 c,.int .i64 d]),(4,.int .i64 s),(5,.bool g)]).run Tryz.prog w=.ok (.agg #[.string n,.string l,.int .u8 k,.int .i64 a,.int .i64 b,.int .i64 c,.int .i64 d,.int .i64 s,.bool g]) w:=by kernel_rfl
theorem wp_store9 {o:Oper} {a:Act} {w:World} {K:Act → World → Prop} {Q:Exit → Act → World → Prop} (p x:Operand) (ho:o.op=.store 41 p x) (g:Nat) (hp:a.eval p=.pointer (some ⟨g,0,none⟩)) (n l:ByteArray) (k m u i t s:Int) (b:Bool)
 (hx:a.eval x=.agg #[.string n,.string l,.int .u8 k,.int .i64 m,.int .i64 u,.int .i64 i,.int .i64 t,.int .i64 s,.bool b]) (hz:w.heap[g]? = some (.cells zeroCs 41 (0,0)))
 (h:∀ w',w'.heap[g]? = some (.cells #[.string n,.string l,.int .u8 k,.int .i64 m,.int .i64 u,.int .i64 i,.int .i64 t,.int .i64 s,.bool b] 41 (0,0)) → Kept (oneB g) w w' → K (a.put o.dst undef) w'):Oper.wp Tryz.prog o a w K Q:=by
 have c0:=cellsAt hz;have f0:=cellsFrozen hz;have h9:=stored9 hz;have k9:=kept9 (Kept.refl (oneB g) w);unfold zeroCs at c0;clear hz
 have hr:(execOp a.eval o).run Tryz.prog w=.ok .skip (((((((((w.setCell ⟨g,0,none⟩ (.string n)).setCell ⟨g,1,none⟩ (.string l)).setCell ⟨g,2,none⟩ (.int .u8 k)).setCell ⟨g,3,none⟩ (.int .i64 m)).setCell ⟨g,4,none⟩ (.int .i64 u)).setCell ⟨g,5,none⟩ (.int .i64 i)).setCell ⟨g,6,none⟩ (.int .i64 t)).setCell ⟨g,7,none⟩ (.int .i64 s)).setCell ⟨g,8,none⟩ (.bool b)):=by
  generalize a.eval=ev at hp hx;simp [go_sem,execOp,ho,hp,hx,c0,f0,Result.andThen]
 unfold Oper.wp;rw [hr,Oper.upon_skip];exact h _ (h9 _ _ _ _ _ _ _ _ _) (k9 _ _ _ _ _ _ _ _ _)
set_option maxHeartbeats 1000000 in
theorem parse_region {Q':Exit → Act → World → Prop} {a0:Act} {w3:World} (g lo B Q:Nat) (r:Nat → Nat) (own:Nat → List UInt8) (mg:ByteArray) (gnu:Bool) (v1 v2 v3 v4 v5:Int)
 (hsz:73≤a0.tmps.size) (h2:a0.eval (.tmp 2)=.pointer (some ⟨g,0,none⟩)) (h4:a0.eval (.tmp 4)=.map (some B)) (h7:a0.eval (.tmp 7)=.string mg) (h8:a0.eval (.tmp 8)=.map (some Q))
 (hP:PartsAt w3 lo B r own) (hBg:B≠g) (hrg:∀ i,i < 11 → r i≠g) (hz:w3.heap[g]? = some (.cells zeroCs 41 (0,0)))
 (hlk:∀ w',Kept (oneB g) w3 w' → (Instr.lookup 124 (.map (some Q)) (.int .i64 1) false).run Tryz.prog w'=.ok (.int .i64 v1) w'∧(Instr.lookup 124 (.map (some Q)) (.int .i64 2) false).run Tryz.prog w'=.ok (.int .i64 v2) w' ∧
  (Instr.lookup 124 (.map (some Q)) (.int .i64 3) false).run Tryz.prog w'=.ok (.int .i64 v3) w'∧(Instr.lookup 124 (.map (some Q)) (.int .i64 4) false).run Tryz.prog w'=.ok (.int .i64 v4) w'∧(Instr.lookup 124 (.map (some Q)) (.int .i64 5) false).run Tryz.prog w'=.ok (.int .i64 v5) w')
 (hgn:(mg.toList == [117,115,116,97,114,32,32,0])=gnu)
 (hQ:∀ a' w',a'.defers=a0.defers → a'.eval (.tmp 2)=.pointer (some ⟨g,0,none⟩) → a'.eval (.tmp 3)=.int .i64 0 →
  w'.heap[g]? = some (.cells #[.string (str (nameF (untilB (own 10)) (untilB (own 0)) gnu)),.string (str (untilB (own 8))),.int .u8 ((kindO (own 7)).toNat:Int),.int .i64 v1,.int .i64 v2,.int .i64 v3,.int .i64 v5,.int .i64 v4,.bool gnu] 41 (0,0)) → Kept (oneB g) w3 w' → Q' .normal a' w') :
 wpAny Tryz.prog .any parseOps Q' parseOps.size (Array.replicate parseOps.size false) a0 w3.drew:=by
 have no:∀ j,(Array.replicate parseOps.size false).getD j false=false:=fun j => by
  rw [Array.getD_eq_getD_getElem?,Array.getElem?_replicate]
  split<;>rfl
 obtain ⟨nm,hnm⟩:∃ nm,nm=str (nameF (untilB (own 10)) (untilB (own 0)) gnu):=⟨_,rfl⟩;obtain ⟨ln,hln⟩:∃ ln,ln=str (untilB (own 8)):=⟨_,rfl⟩;obtain ⟨kd,hkd⟩:∃ kd:Int,kd=((kindO (own 7)).toNat:Int):=⟨_,rfl⟩;rw [← hnm,← hln,← hkd] at hQ;obtain ⟨C,hC⟩:∃ C:Array Value,C=#[.string nm,.string ln,.int .u8 kd,.int .i64 v1,.int .i64 v2,.int .i64 v3,.int .i64 v5,.int .i64 v4,.bool gnu]:=⟨_,rfl⟩;rw [← hC] at hQ;refine wpAny_vals (pV B Q mg nm ln gnu kd v1 v2 v3 v4 v5) a0 (fun listed w => Kept (oneB g) w3 w∧w.heap[g]? = some (.cells (if listed.getD 22 false=true then C else zeroCs) 41 (0,0))) 73 parse_apart hsz ?_ ?_ ⟨(Kept.refl _ w3).drew,by rw [no];exact hz⟩
 ·intro listed a w j o h ho hun hdep
  have hlt:=lt_of_unlisted hun;obtain ⟨hk,hh⟩:=h.wd
  have keep:∀ w',j≠22 → Kept noneB w w' → Kept (oneB g) w3 w'∧w'.heap[g]? = some (.cells (if (listed.setIfInBounds j true).getD 22 false=true then C else zeroCs) 41 (0,0)):=fun w' hj hk' => by
   rw [listed_get hlt,if_neg (Ne.symm hj)];exact ⟨hk.trans (hk'.of_none _),hk'.some_ hh id⟩
  have hj24:j < 24:=by
   have:=(Array.getElem?_eq_some_iff.1 ho).1
   rwa [parse_size] at this
  have hPw:PartsAt w lo B r own:=hP.kept hk hBg hrg;obtain ⟨l1,l2,l3,l4,l5⟩:=hlk w hk;have same:∀ {j':Nat} {o':Oper},parseOps[j']? = some o' → j=j' → o'=o:=fun {j' o'} h' e => by subst e;exact Option.some.inj (h'.symm.trans ho)
  rcases (show j=0 ∨ j=1 ∨ j=2 ∨ j=3 ∨ j=4 ∨ j=5 ∨ j=6 ∨ j=7 ∨ j=8 ∨ j=9 ∨ j=10 ∨ j=11 ∨ j=12 ∨ j=13 ∨ j=14 ∨ j=15 ∨ j=16 ∨ j=17 ∨ j=18 ∨ j=19 ∨ j=20 ∨ j=21 ∨ j=22 ∨ j=23 by omega) with rfl | rfl | rfl | rfl | rfl | rfl | rfl | rfl | rfl | rfl | rfl | rfl | rfl | rfl | rfl | rfl | rfl | rfl | rfl | rfl | rfl | rfl | rfl | rfl
  ·obtain ⟨o',ho',hop,hdst⟩:=pop0
   obtain rfl:=same ho' rfl;exact wp_move _ _ (Or.inl hop) ((h.old (t:=4) (by kernel_rfl)).trans h4) ⟨rfl,keep w (by decide) (Kept.refl _ _)⟩
  ·obtain ⟨o',ho',hop,hdst⟩:=pop1
   obtain rfl:=same ho' rfl;exact wp_move _ _ (Or.inl hop) ((h.old (t:=7) (by kernel_rfl)).trans h7) ⟨rfl,keep w (by decide) (Kept.refl _ _)⟩
  ·obtain ⟨o',ho',hop,hdst⟩:=pop2
   obtain rfl:=same ho' rfl;have e:=(h.get ho hdep (i:=1) (d:=52) (by kernel_rfl) rfl)
   refine wp_run (.bool gnu) ?_ ⟨rfl,keep w (by decide) (Kept.refl _ _)⟩
   have e:a.eval (.tmp 52)=.string mg:=e;have ec:a.eval (.const (.string ⟨#[117,115,116,97,114,32,32,0]⟩))=.string ⟨#[117,115,116,97,114,32,32,0]⟩:=rfl;generalize a.eval=ev at e ec ⊢;simp [go_sem,execOp,hop,e,ec,hgn]
  ·obtain ⟨o',ho',hop,hdst⟩:=pop3
   obtain rfl:=same ho' rfl;have e0:a.eval (.tmp 51)=.map (some B):=(h.get ho hdep (i:=0) (d:=51) (by kernel_rfl) rfl)
   have e1:a.eval (.tmp 53)=.bool gnu:=(h.get ho hdep (i:=2) (d:=53) (by kernel_rfl) rfl)
   refine wp_call _ _ _ hop #[.map (some B),.bool gnu] (by simp [e0,e1]) (enters_of Tryz.func76 (by kernel_rfl) rfl) (.string nm) (fun w' => Kept noneB w w') ?_ (fun w' hk' => ⟨rfl,keep w' (by decide) hk'⟩)
   rw [hnm];exact name_any lo B r own gnu w hPw
  ·obtain ⟨o',ho',hop,hdst⟩:=pop4
   obtain rfl:=same ho' rfl;exact wp_move _ _ (Or.inl hop) ((h.old (t:=4) (by kernel_rfl)).trans h4) ⟨rfl,keep w (by decide) (Kept.refl _ _)⟩
  ·obtain ⟨o',ho',hop,hdst⟩:=pop5
   obtain rfl:=same ho' rfl;have e0:a.eval (.tmp 55)=.map (some B):=(h.get ho hdep (i:=4) (d:=55) (by kernel_rfl) rfl)
   refine wp_call _ _ _ hop #[.map (some B),.int .i64 8] (by simp [e0,evalC]) (enters_of Tryz.func77 (by kernel_rfl) rfl) (.string ln) (fun w' => Kept noneB w w') ?_ (fun w' hk' => ⟨rfl,keep w' (by decide) hk'⟩)
   rw [hln];exact text_any lo B r own 8 w (by omega) hPw
  ·obtain ⟨o',ho',hop,hdst⟩:=pop6
   obtain rfl:=same ho' rfl;exact wp_move _ _ (Or.inl hop) ((h.old (t:=4) (by kernel_rfl)).trans h4) ⟨rfl,keep w (by decide) (Kept.refl _ _)⟩
  ·obtain ⟨o',ho',hop,hdst⟩:=pop7
   obtain rfl:=same ho' rfl;have e0:a.eval (.tmp 57)=.map (some B):=(h.get ho hdep (i:=6) (d:=57) (by kernel_rfl) rfl)
   refine wp_call _ _ _ hop #[.map (some B)] (by simp [e0]) (enters_of Tryz.func78 (by kernel_rfl) rfl) (.int .u8 kd) (fun w' => Kept noneB w w') ?_ (fun w' hk' => ⟨rfl,keep w' (by decide) hk'⟩)
   rw [hkd];refine (kind_any lo B r own w hPw).mono ?_
   rintro e w' ⟨rfl,rfl⟩;exact ⟨rfl,Kept.refl _ _⟩
  ·obtain ⟨o',ho',hop,hdst⟩:=pop8
   obtain rfl:=same ho' rfl;exact wp_move _ _ (Or.inl hop) ((h.old (t:=8) (by kernel_rfl)).trans h8) ⟨rfl,keep w (by decide) (Kept.refl _ _)⟩
  ·obtain ⟨o',ho',hop,hdst⟩:=pop9
   obtain rfl:=same ho' rfl;exact wp_look _ _ _ hop _ _ _ (h.get ho hdep (i:=8) (d:=59) (by kernel_rfl) rfl) rfl l1 ⟨rfl,keep w (by decide) (Kept.refl _ _)⟩
  ·obtain ⟨o',ho',hop,hdst⟩:=pop10
   obtain rfl:=same ho' rfl;exact wp_move _ _ (Or.inl hop) ((h.old (t:=8) (by kernel_rfl)).trans h8) ⟨rfl,keep w (by decide) (Kept.refl _ _)⟩
  ·obtain ⟨o',ho',hop,hdst⟩:=pop11
   obtain rfl:=same ho' rfl;exact wp_look _ _ _ hop _ _ _ (h.get ho hdep (i:=10) (d:=61) (by kernel_rfl) rfl) rfl l2 ⟨rfl,keep w (by decide) (Kept.refl _ _)⟩
  ·obtain ⟨o',ho',hop,hdst⟩:=pop12
   obtain rfl:=same ho' rfl;exact wp_move _ _ (Or.inl hop) ((h.old (t:=8) (by kernel_rfl)).trans h8) ⟨rfl,keep w (by decide) (Kept.refl _ _)⟩
  ·obtain ⟨o',ho',hop,hdst⟩:=pop13
   obtain rfl:=same ho' rfl;exact wp_look _ _ _ hop _ _ _ (h.get ho hdep (i:=12) (d:=63) (by kernel_rfl) rfl) rfl l3 ⟨rfl,keep w (by decide) (Kept.refl _ _)⟩
  ·obtain ⟨o',ho',hop,hdst⟩:=pop14
   obtain rfl:=same ho' rfl;exact wp_move _ _ (Or.inl hop) ((h.old (t:=8) (by kernel_rfl)).trans h8) ⟨rfl,keep w (by decide) (Kept.refl _ _)⟩
  ·obtain ⟨o',ho',hop,hdst⟩:=pop15
   obtain rfl:=same ho' rfl;exact wp_look _ _ _ hop _ _ _ (h.get ho hdep (i:=14) (d:=65) (by kernel_rfl) rfl) rfl l5 ⟨rfl,keep w (by decide) (Kept.refl _ _)⟩
  ·obtain ⟨o',ho',hop,hdst⟩:=pop16
   obtain rfl:=same ho' rfl;have e0:=(h.get ho hdep (i:=9) (d:=60) (by kernel_rfl) rfl)
   have e1:=(h.get ho hdep (i:=11) (d:=62) (by kernel_rfl) rfl)
   have e2:=(h.get ho hdep (i:=13) (d:=64) (by kernel_rfl) rfl)
   have e3:=(h.get ho hdep (i:=15) (d:=66) (by kernel_rfl) rfl)
   refine wp_run _ ?_ ⟨rfl,keep w (by decide) (Kept.refl _ _)⟩
   have b:=build_meta w v1 v2 v3 v5;have e0:a.eval (.tmp 60)=.int .i64 v1:=e0;have e1:a.eval (.tmp 62)=.int .i64 v2:=e1;have e2:a.eval (.tmp 64)=.int .i64 v3:=e2;have e3:a.eval (.tmp 66)=.int .i64 v5:=e3;simp [execOp,hop,e0,e1,e2,e3,b,Result.andThen,pV]
  ·obtain ⟨o',ho',hop,hdst⟩:=pop17
   obtain rfl:=same ho' rfl;exact wp_move _ _ (Or.inl hop) ((h.old (t:=8) (by kernel_rfl)).trans h8) ⟨rfl,keep w (by decide) (Kept.refl _ _)⟩
  ·obtain ⟨o',ho',hop,hdst⟩:=pop18
   obtain rfl:=same ho' rfl;exact wp_look _ _ _ hop _ _ _ (h.get ho hdep (i:=17) (d:=68) (by kernel_rfl) rfl) rfl l4 ⟨rfl,keep w (by decide) (Kept.refl _ _)⟩
  ·obtain ⟨o',ho',hop,hdst⟩:=pop19
   obtain rfl:=same ho' rfl;exact wp_move _ _ (Or.inl hop) ((h.old (t:=7) (by kernel_rfl)).trans h7) ⟨rfl,keep w (by decide) (Kept.refl _ _)⟩
  ·obtain ⟨o',ho',hop,hdst⟩:=pop20
   obtain rfl:=same ho' rfl;have e:=(h.get ho hdep (i:=19) (d:=70) (by kernel_rfl) rfl)
   refine wp_run (.bool gnu) ?_ ⟨rfl,keep w (by decide) (Kept.refl _ _)⟩
   have e:a.eval (.tmp 70)=.string mg:=e;have ec:a.eval (.const (.string ⟨#[117,115,116,97,114,32,32,0]⟩))=.string ⟨#[117,115,116,97,114,32,32,0]⟩:=rfl;generalize a.eval=ev at e ec ⊢;simp [go_sem,execOp,hop,e,ec,hgn]
  ·obtain ⟨o',ho',hop,hdst⟩:=pop21
   obtain rfl:=same ho' rfl;have e0:a.eval (.tmp 54)=.string nm:=(h.get ho hdep (i:=3) (d:=54) (by kernel_rfl) rfl)
   have e1:a.eval (.tmp 56)=.string ln:=(h.get ho hdep (i:=5) (d:=56) (by kernel_rfl) rfl)
   have e2:a.eval (.tmp 58)=.int .u8 kd:=(h.get ho hdep (i:=7) (d:=58) (by kernel_rfl) rfl)
   have e3:a.eval (.tmp 67)=.agg #[.int .i64 v1,.int .i64 v2,.int .i64 v3,.int .i64 v5]:=(h.get ho hdep (i:=16) (d:=67) (by kernel_rfl) rfl)
   have e4:a.eval (.tmp 69)=.int .i64 v4:=(h.get ho hdep (i:=18) (d:=69) (by kernel_rfl) rfl)
   have e5:a.eval (.tmp 71)=.bool gnu:=(h.get ho hdep (i:=20) (d:=71) (by kernel_rfl) rfl)
   refine wp_run _ ?_ ⟨rfl,keep w (by decide) (Kept.refl _ _)⟩
   have b:=build_head w nm ln kd v1 v2 v3 v5 v4 gnu;simp [execOp,hop,e0,e1,e2,e3,e4,e5,b,Result.andThen,pV]
  ·obtain ⟨o',ho',hop,hdst⟩:=pop22
   obtain rfl:=same ho' rfl;have e0:=(h.old (t:=2) (by kernel_rfl)).trans h2
   have e1:=(h.get ho hdep (i:=21) (d:=72) (by kernel_rfl) rfl)
   have hh0:w.heap[g]? = some (.cells zeroCs 41 (0,0)):=by rw [getD_flip hun] at hh;exact hh
   refine wp_store9 _ _ hop g e0 nm ln kd v1 v2 v3 v5 v4 gnu e1 hh0 (fun w' hw' hk' => ⟨rfl,hk.trans hk',?_⟩)
   rw [listed_get hlt,if_pos rfl,if_pos rfl,hC];exact hw'
  ·obtain ⟨o',ho',hop,hdst⟩:=pop23
   obtain rfl:=same ho' rfl;exact wp_move _ _ (Or.inr hop) rfl ⟨rfl,keep w (by decide) (Kept.refl _ _)⟩
 ·intro listed a w h hall
  have all:∀ j,j < 24 → listed.getD j false=true:=fun j hj => hall j (by rw [parse_size];exact hj)
  obtain ⟨hk,hh⟩:=h.wd;rw [all 22 (by omega),if_pos rfl] at hh
  obtain ⟨o',ho',_,hdst⟩:=pop23;exact hQ a w h.df ((h.old (t:=2) (by kernel_rfl)).trans h2) (h.done 23 o' 3 ho' hdst (all 23 (by omega))) hh hk
end Go.Proofs.YtnpkcneojilmkaaGreatDoor.Head
end
section
namespace Go.Proofs.YtnpkcneojilmkaaGreatDoor.Head
open Go.ChangeShapes Go.WideShapes Go.ChangeAt Go.RowKit Base Byt Txt Hp Go.Proofs.YtnpkcneojilmkaaGreatDoor.Mp Fp Go.Proofs.YtnpkcneojilmkaaGreatDoor.Field Go.Lib
set_option linter.unusedVariables false
set_option maxRecDepth 100000
def PutS (r:Option (List Int)) (v:Value) (y:Bool) (w:World):Prop:=
 (∃ l p c,r=some l∧y=true∧v=.slice p l.length c∧l.length≤c∧BAt w p l.length (bytesOf l)) ∨ (r=none∧y=false∧v=.slice none 0 0)
theorem rput_s (n wide:Int) (w:World) (w0:(Lit.int .i64 n).wf=true) (w1:(Lit.int .i64 wide).wf=true) :
 Calls Tryz.prog 29 #[.int .i64 n,.int .i64 wide] w fun e w' => ∃ v y,e=.returned (.tuple #[v,.bool y])∧PutS (putF n wide) v y w'∧Kept noneB w w':=by
 refine (rput_any n wide w w0 w1).mono ?_
 rintro e w' ⟨hb,(⟨l,v,hl,rfl,hown⟩ | ⟨hl,rfl⟩)⟩
 ·obtain ⟨p,c,rfl,hc,_,hbat,_⟩:=bat_of_own hown (putF_bd hl)
  exact ⟨_,true,rfl,Or.inl ⟨l,p,c,hl,rfl,rfl,hc,hbat⟩,Kept.of_below hb _⟩
 ·exact ⟨_,false,rfl,Or.inr ⟨hl,rfl,rfl⟩,Kept.of_below hb _⟩
noncomputable def rputOps:Array Oper:=regionAt Tryz.f13 18
def pV2 (A C:Value) (k:Int) (pa pc:Addr) (x z:Int) (vy:Value × Bool):Nat → Value
 | 0 => A | 1 => .int .i64 k | 2 => .pointer (some pa) | 3 => .int .i64 x | 4 => C | 5 => .int .i64 k | 6 => .pointer (some pc) | 7 => .int .i64 z | 8 => .tuple #[vy.1,.bool vy.2] | 9 => .tuple #[vy.1,.bool vy.2] | 10 => vy.1 | 11 => .bool vy.2 | 12 => vy.1 | 13 => .bool vy.2 | _ => undef
theorem rput_size:rputOps.size=14:=rfl
theorem rput_apart:apartG rputOps 152=true:=by kernel_rfl
theorem tdst0:dstAt rputOps 0=some 95:=rfl
theorem top0:∃ o,rputOps[0]? = some o∧o.op=.move (.tmp 10)∧o.dst=some 95:=⟨_,rfl,rfl,rfl⟩
theorem tdst1:dstAt rputOps 1=some 96:=rfl
theorem top1:∃ o,rputOps[1]? = some o∧o.op=.move (.tmp 13)∧o.dst=some 96:=⟨_,rfl,rfl,rfl⟩
theorem tdst2:dstAt rputOps 2=some 97:=rfl
theorem top2:∃ o,rputOps[2]? = some o∧o.op=.indexAddr 49 (.tmp 95) (.tmp 96)∧o.dst=some 97:=⟨_,rfl,rfl,rfl⟩
theorem tdst3:dstAt rputOps 3=some 98:=rfl
theorem top3:∃ o,rputOps[3]? = some o∧o.op=.load 3 (.tmp 97)∧o.dst=some 98:=⟨_,rfl,rfl,rfl⟩
theorem tdst4:dstAt rputOps 4=some 99:=rfl
theorem top4:∃ o,rputOps[4]? = some o∧o.op=.move (.tmp 12)∧o.dst=some 99:=⟨_,rfl,rfl,rfl⟩
theorem tdst5:dstAt rputOps 5=some 100:=rfl
theorem top5:∃ o,rputOps[5]? = some o∧o.op=.move (.tmp 13)∧o.dst=some 100:=⟨_,rfl,rfl,rfl⟩
theorem tdst6:dstAt rputOps 6=some 101:=rfl
theorem top6:∃ o,rputOps[6]? = some o∧o.op=.indexAddr 49 (.tmp 99) (.tmp 100)∧o.dst=some 101:=⟨_,rfl,rfl,rfl⟩
theorem tdst7:dstAt rputOps 7=some 102:=rfl
theorem top7:∃ o,rputOps[7]? = some o∧o.op=.load 3 (.tmp 101)∧o.dst=some 102:=⟨_,rfl,rfl,rfl⟩
theorem tdst8:dstAt rputOps 8=some 103:=rfl
theorem top8:∃ o,rputOps[8]? = some o∧o.op=.call { callee:=.value (.func 29),args:=#[.tmp 98,.tmp 102],argTypes:=#[3,3] }∧o.dst=some 103:=⟨_,rfl,rfl,rfl⟩
theorem tdst9:dstAt rputOps 9=some 94:=rfl
theorem top9:∃ o,rputOps[9]? = some o∧o.op=.move (.tmp 103)∧o.dst=some 94:=⟨_,rfl,rfl,rfl⟩
theorem tdst10:dstAt rputOps 10=some 104:=rfl
theorem top10:∃ o,rputOps[10]? = some o∧o.op=.extract (.tmp 94) 0∧o.dst=some 104:=⟨_,rfl,rfl,rfl⟩
theorem tdst11:dstAt rputOps 11=some 105:=rfl
theorem top11:∃ o,rputOps[11]? = some o∧o.op=.extract (.tmp 94) 1∧o.dst=some 105:=⟨_,rfl,rfl,rfl⟩
theorem tdst12:dstAt rputOps 12=some 14:=rfl
theorem top12:∃ o,rputOps[12]? = some o∧o.op=.assign (.tmp 104)∧o.dst=some 14:=⟨_,rfl,rfl,rfl⟩
theorem tdst13:dstAt rputOps 13=some 15:=rfl
theorem top13:∃ o,rputOps[13]? = some o∧o.op=.assign (.tmp 105)∧o.dst=some 15:=⟨_,rfl,rfl,rfl⟩
theorem rput_behind:∀ j,8 < j → j < 14 → hasDep rputOps j 8=true ∨ hasDep rputOps j 9=true ∨ hasDep rputOps j 10=true ∨ hasDep rputOps j 11=true:=by
 intro j h1 h2;rcases (show j=9 ∨ j=10 ∨ j=11 ∨ j=12 ∨ j=13 by omega) with rfl | rfl | rfl | rfl | rfl
 ·exact Or.inl (by kernel_rfl)
 ·exact Or.inr (Or.inl (by kernel_rfl))
 ·exact Or.inr (Or.inl (by kernel_rfl))
 ·exact Or.inr (Or.inr (Or.inl (by kernel_rfl)))
 ·exact Or.inr (Or.inr (Or.inr (by kernel_rfl)))
set_option maxHeartbeats 1000000 in
theorem rput_region {Q':Exit → Act → World → Prop} {a0:Act} {w3:World} (A C:Value) (k:Int) (pa pc:Addr) (x z:Int) (R:Value → Bool → World → Prop)
 (hsz:152≤a0.tmps.size) (h10:a0.eval (.tmp 10)=A) (h12:a0.eval (.tmp 12)=C) (h13:a0.eval (.tmp 13)=.int .i64 k)
 (hia:∀ w,(Instr.indexAt 49 A (.int .i64 k)).run Tryz.prog w=.ok (.pointer (some pa)) w)
 (hic:∀ w,(Instr.indexAt 49 C (.int .i64 k)).run Tryz.prog w=.ok (.pointer (some pc)) w)
 (hla:∀ w,Kept noneB w3 w → (Instr.loadAt 3 (.pointer (some pa))).run Tryz.prog w=.ok (.int .i64 x) w)
 (hlc:∀ w,Kept noneB w3 w → (Instr.loadAt 3 (.pointer (some pc))).run Tryz.prog w=.ok (.int .i64 z) w)
 (hcall:∀ w,Kept noneB w3 w → Calls Tryz.prog 29 #[.int .i64 x,.int .i64 z] w fun e w' => ∃ v y,e=.returned (.tuple #[v,.bool y])∧R v y w'∧Kept noneB w w')
 (hQ:∀ v y w',R v y w' → Kept noneB w3 w' → Q' .normal ((((((((((((((a0.put (some 95) (A)).put (some 96) (.int .i64 k)).put (some 97) (.pointer (some pa))).put (some 98) (.int .i64 x)).put (some 99) (C)).put (some 100) (.int .i64 k)).put (some 101) (.pointer (some pc))).put (some 102) (.int .i64 z)).put (some 103) (.tuple #[v,.bool y])).put (some 94) (.tuple #[v,.bool y])).put (some 104) (v)).put (some 105) (.bool y)).put (some 14) (v)).put (some 15) (.bool y)) w') :
 wpAny Tryz.prog .any rputOps Q' rputOps.size (Array.replicate rputOps.size false) a0 w3.drew:=by
 have no:∀ j,(Array.replicate rputOps.size false).getD j false=false:=fun j => by
  rw [Array.getD_eq_getD_getElem?,Array.getElem?_replicate]
  split<;>rfl
 refine wpAny_ghost (Γ:=Value × Bool) (pV2 A C k pa pc x z) (undef,false) a0 (fun vy listed w => Kept noneB w3 w∧(listed.getD 8 false=true → R vy.1 vy.2 w)∧(∀ j,8 < j → j < 14 → listed.getD j false=true → listed.getD 8 false=true)) 152 rput_apart hsz ?_ ?_
  ⟨(Kept.refl _ w3).drew,fun h => (by rw [no] at h;cases h),fun j _ _ h => (by rw [no] at h;cases h)⟩
 ·intro vy listed a w j o h ho hun hdep
  have hlt:=lt_of_unlisted hun;obtain ⟨hk,hh1,hh2⟩:=h.wd
  have hj14:j < 14:=by
   have:=(Array.getElem?_eq_some_iff.1 ho).1
   rwa [rput_size] at this
  have keep:j≠8 → ∃ γ',(∀ i,listed.getD i false=true → pV2 A C k pa pc x z γ' i=pV2 A C k pa pc x z vy i)∧a.put o.dst (pV2 A C k pa pc x z vy j)=a.put o.dst (pV2 A C k pa pc x z γ' j)∧(Kept noneB w3 w∧((listed.setIfInBounds j true).getD 8 false=true → R γ'.1 γ'.2 w)∧(∀ j',8 < j' → j' < 14 → (listed.setIfInBounds j true).getD j' false=true → (listed.setIfInBounds j true).getD 8 false=true)):=fun hj => by
   refine ⟨vy,fun _ _ => rfl,rfl,hk,?_,fun j' h1 h2 h3 => ?_⟩
   ·rw [listed_get hlt,if_neg (Ne.symm hj)]
    exact hh1
   ·rw [listed_get hlt,if_neg (Ne.symm hj)]
    rw [listed_get hlt] at h3
    by_cases hjj:j'=j
    ·subst hjj
     rcases rput_behind j' h1 h2 with hd | hd | hd | hd
     ·exact dep_listed ho hdep hd
     ·exact hh2 9 (by omega) (by omega) (dep_listed ho hdep hd)
     ·exact hh2 10 (by omega) (by omega) (dep_listed ho hdep hd)
     ·exact hh2 11 (by omega) (by omega) (dep_listed ho hdep hd)
    ·rw [if_neg hjj] at h3
     exact hh2 j' h1 h2 h3
  have same:∀ {j':Nat} {o':Oper},rputOps[j']? = some o' → j=j' → o'=o:=fun {j' o'} h' e => by subst e;exact Option.some.inj (h'.symm.trans ho)
  rcases (show j=0 ∨ j=1 ∨ j=2 ∨ j=3 ∨ j=4 ∨ j=5 ∨ j=6 ∨ j=7 ∨ j=8 ∨ j=9 ∨ j=10 ∨ j=11 ∨ j=12 ∨ j=13 by omega) with rfl | rfl | rfl | rfl | rfl | rfl | rfl | rfl | rfl | rfl | rfl | rfl | rfl | rfl
  ·obtain ⟨o',ho',hop,hdst⟩:=top0
   obtain rfl:=same ho' rfl;exact wp_move _ _ (Or.inl hop) ((h.old (t:=10) (by kernel_rfl)).trans h10) (keep (by decide))
  ·obtain ⟨o',ho',hop,hdst⟩:=top1
   obtain rfl:=same ho' rfl;exact wp_move _ _ (Or.inl hop) ((h.old (t:=13) (by kernel_rfl)).trans h13) (keep (by decide))
  ·obtain ⟨o',ho',hop,hdst⟩:=top2
   obtain rfl:=same ho' rfl;have e0:a.eval (.tmp 95)=A:=(h.get ho hdep (i:=0) (d:=95) (by kernel_rfl) rfl)
   have e1:a.eval (.tmp 96)=.int .i64 k:=(h.get ho hdep (i:=1) (d:=96) (by kernel_rfl) rfl)
   refine wp_run _ ?_ (keep (by decide))
   have q:=hia w;simp [execOp,hop,e0,e1,q,Result.andThen,pV2]
  ·obtain ⟨o',ho',hop,hdst⟩:=top3
   obtain rfl:=same ho' rfl;have e:a.eval (.tmp 97)=.pointer (some pa):=(h.get ho hdep (i:=2) (d:=97) (by kernel_rfl) rfl)
   refine wp_run _ ?_ (keep (by decide))
   have q:=hla w hk;simp [execOp,hop,e,q,Result.andThen,pV2]
  ·obtain ⟨o',ho',hop,hdst⟩:=top4
   obtain rfl:=same ho' rfl;exact wp_move _ _ (Or.inl hop) ((h.old (t:=12) (by kernel_rfl)).trans h12) (keep (by decide))
  ·obtain ⟨o',ho',hop,hdst⟩:=top5
   obtain rfl:=same ho' rfl;exact wp_move _ _ (Or.inl hop) ((h.old (t:=13) (by kernel_rfl)).trans h13) (keep (by decide))
  ·obtain ⟨o',ho',hop,hdst⟩:=top6
   obtain rfl:=same ho' rfl;have e0:a.eval (.tmp 99)=C:=(h.get ho hdep (i:=4) (d:=99) (by kernel_rfl) rfl)
   have e1:a.eval (.tmp 100)=.int .i64 k:=(h.get ho hdep (i:=5) (d:=100) (by kernel_rfl) rfl)
   refine wp_run _ ?_ (keep (by decide))
   have q:=hic w;simp [execOp,hop,e0,e1,q,Result.andThen,pV2]
  ·obtain ⟨o',ho',hop,hdst⟩:=top7
   obtain rfl:=same ho' rfl;have e:a.eval (.tmp 101)=.pointer (some pc):=(h.get ho hdep (i:=6) (d:=101) (by kernel_rfl) rfl)
   refine wp_run _ ?_ (keep (by decide))
   have q:=hlc w hk;simp [execOp,hop,e,q,Result.andThen,pV2]
  ·obtain ⟨o',ho',hop,hdst⟩:=top8
   obtain rfl:=same ho' rfl;have e0:a.eval (.tmp 98)=.int .i64 x:=(h.get ho hdep (i:=3) (d:=98) (by kernel_rfl) rfl)
   have e1:a.eval (.tmp 102)=.int .i64 z:=(h.get ho hdep (i:=7) (d:=102) (by kernel_rfl) rfl)
   have hno:∀ j',8 < j' → j' < 14 → listed.getD j' false=true → False:=fun j' h1 h2 h3 => by
    have h4:=hh2 j' h1 h2 h3;rw [getD_flip hun] at h4
    cases h4
   refine wp_callE _ _ _ hop #[.int .i64 x,.int .i64 z] (by simp [e0,e1]) (enters_of Tryz.func29 (by kernel_rfl) rfl) (fun v w' => ∃ u y,v=.tuple #[u,.bool y]∧R u y w'∧Kept noneB w w') ((hcall w hk).mono fun e w' ⟨u,y,he,hr,hk'⟩ => ⟨_,he,u,y,rfl,hr,hk'⟩) (fun v w' ⟨u,y,hv,hr,hk'⟩ => ⟨(u,y),fun i hi => ?_,by rw [hv];rfl,hk.trans hk',fun _ => hr,fun j' h1 h2 h3 => by rw [listed_get hlt,if_pos rfl]⟩)
   have hi8:i < 8:=by
    rcases Nat.lt_trichotomy i 8 with h1 | h1 | h1
    ·exact h1
    ·rw [h1,getD_flip hun] at hi;cases hi
    ·by_cases h2:i < 14
     ·exact (hno i h1 h2 hi).elim
     ·exfalso
      have hs:=h.ls;rw [rput_size] at hs;rw [Array.getD_eq_getD_getElem?,Array.getElem?_eq_none (by omega)] at hi
      cases hi
   rcases (show i=0 ∨ i=1 ∨ i=2 ∨ i=3 ∨ i=4 ∨ i=5 ∨ i=6 ∨ i=7 by omega) with rfl | rfl | rfl | rfl | rfl | rfl | rfl | rfl<;>rfl
  ·obtain ⟨o',ho',hop,hdst⟩:=top9
   obtain rfl:=same ho' rfl;have e:a.eval (.tmp 103)=.tuple #[vy.1,.bool vy.2]:=(h.get ho hdep (i:=8) (d:=103) (by kernel_rfl) rfl)
   exact wp_move _ _ (Or.inl hop) e (keep (by decide))
  ·obtain ⟨o',ho',hop,hdst⟩:=top10
   obtain rfl:=same ho' rfl;have e:a.eval (.tmp 94)=.tuple #[vy.1,.bool vy.2]:=(h.get ho hdep (i:=9) (d:=94) (by kernel_rfl) rfl)
   refine wp_run _ ?_ (keep (by decide))
   generalize a.eval=ev at e ⊢;simp [go_sem,execOp,hop,e,pV2]
  ·obtain ⟨o',ho',hop,hdst⟩:=top11
   obtain rfl:=same ho' rfl;have e:a.eval (.tmp 94)=.tuple #[vy.1,.bool vy.2]:=(h.get ho hdep (i:=9) (d:=94) (by kernel_rfl) rfl)
   refine wp_run _ ?_ (keep (by decide))
   generalize a.eval=ev at e ⊢;simp [go_sem,execOp,hop,e,pV2]
  ·obtain ⟨o',ho',hop,hdst⟩:=top12
   obtain rfl:=same ho' rfl;have e:a.eval (.tmp 104)=vy.1:=(h.get ho hdep (i:=10) (d:=104) (by kernel_rfl) rfl)
   exact wp_move _ _ (Or.inr hop) e (keep (by decide))
  ·obtain ⟨o',ho',hop,hdst⟩:=top13
   obtain rfl:=same ho' rfl;have e:a.eval (.tmp 105)=.bool vy.2:=(h.get ho hdep (i:=11) (d:=105) (by kernel_rfl) rfl)
   exact wp_move _ _ (Or.inr hop) e (keep (by decide))
 ·intro vy listed a w h hall
  obtain ⟨v,y⟩:=vy;obtain ⟨hk,hh,_⟩:=h.wd;have hR:=hh (hall 8 (by rw [rput_size];omega))
  rw [done_putAllG 152 rput_apart hsz h hall,rput_size];simp only [putAll,tdst0,tdst1,tdst2,tdst3,tdst4,tdst5,tdst6,tdst7,tdst8,tdst9,tdst10,tdst11,tdst12,tdst13];exact hQ v y w hR hk
end Go.Proofs.YtnpkcneojilmkaaGreatDoor.Head
end
section
namespace Go.Proofs.YtnpkcneojilmkaaGreatDoor.Head
open Go.ChangeShapes Go.WideShapes Go.ChangeAt Go.RowKit Base Byt Txt Hp Go.Proofs.YtnpkcneojilmkaaGreatDoor.Mp Fp Go.Proofs.YtnpkcneojilmkaaGreatDoor.Field Go.Lib
set_option linter.unusedVariables false
set_option maxRecDepth 100000
set_option maxHeartbeats 4000000 in
theorem parseH_any (p:Option Addr) (n c:Nat) (bs:List UInt8) (w:World) (hn:bs.length=n) (hc:n≤c) (hm0:c≤maxLen) (h:BAt w p n bs) :
 Calls Tryz.prog 54 #[.slice p n c] w fun e w' => e=.returned (headA (headR bs))∧Kept noneB w w':=by
 have hm:c≤9223372036854775807:=by unfold maxLen at hm0;omega
 have fl:=field_own;have HN:=Lib.hid hn;have H:=Lib.hid h;clear h hn
 by_cases h512:n=512
 ·subst h512
  obtain ⟨g,hg⟩:∃ g,g=w.heap.size:=⟨_,rfl⟩;obtain ⟨w0,hw0⟩:∃ w0,w0=w.alloc (.cells #[.string ⟨#[]⟩,.string ⟨#[]⟩,.int .u8 0,.int .i64 0,.int .i64 0,.int .i64 0,.int .i64 0,.int .i64 0,.bool false] 41):=⟨_,rfl⟩;have HK0:Hid (Kept noneB w w0):=Lib.hid (by rw [hw0];exact (Kept.refl noneB w).alloc _)
  have HG0:Hid (w0.heap[g]? = some (.cells zeroCs 41 (0,0))):=Lib.hid (by rw [hw0,hg];exact heap_alloc_new w _)
  have HGL:Hid (g < w0.heap.size):=Lib.hid (Array.getElem?_eq_some_iff.1 HG0.out).1;have HGE:Hid (g=w.heap.size):=Lib.hid hg;have HG:Hid (w.heap.size≤g):=Lib.hid (by omega)
  go_enter Tryz.func54,Tryz.ntmps54
  go_wp2_with fail
  rw [← hw0,← hg];clear hw0 hg;refine (read_any p c bs w0 HN.out hc (by unfold maxLen;omega) (H.out.kept HK0.out (fun _ _ _ => id))).mono ?_
  obtain ⟨g',hg'⟩:∃ g',g'=w0.heap.size:=⟨_,rfl⟩;have HLO:Hid (g'=w0.heap.size):=Lib.hid hg';rw [← hg'];clear hg';rintro e w1 ⟨B,r,rfl,hP1,hk1⟩;have HP1:=Lib.hid hP1;have HK1:=Lib.hid hk1;have lk6:(Instr.lookup 117 (.map (some B)) (.int .i64 6) false).run Tryz.prog w1=.ok (.agg #[.int .i64 148,.slice (some ⟨r 6,0,none⟩) 8 8]) w1:=lookB hP1 6 (by omega)
  clear hP1 hk1
  go_wp2_with fail
  refine (parse_any _ 8 8 (readO bs 6) w1 (HP1.out.fit 6) (Nat.le_refl _) (by decide) (HP1.out.bat (i:=6) (by omega))).mono ?_
  rintro e w2 ⟨rfl,hb2⟩;have hk2:Kept noneB w1 w2:=Kept.of_below hb2 _;have HP2:=Lib.hid (HP1.out.kept0 hk2);have HK2:=Lib.hid (HK1.out.trans hk2);have HG2:=Lib.hid (HK2.out.some_ HG0.out id);clear hb2 hk2 lk6;rw [readO_at bs 6 (by omega)]
  cases hps:parseF (fieldB bs 6) with
  | none =>
    have E:Hid (headR bs=(zeroH,3)):=Lib.hid (headR_sum HN.out (by rw [hps];simp))
    rw [vI_none,oI_none];have c0:=cellsAt HG2.out;have f0:=cellsFrozen HG2.out;unfold zeroCs at c0;clear hps
    go_wp2
    refine bodyPost_ret (ret_head rfl _ _ g _ rfl rfl ⟨#[]⟩ ⟨#[]⟩ 0 0 0 0 0 0 false (stored9 HG2.out _ _ _ _ _ _ _ _ _)) rfl ?_
    rw [E.out]
    exact ⟨rfl,(HK0.out.trans HK2.out).then (kept9 (Kept.refl (oneB g) _) _ _ _ _ _ _ _ _ _) (fun i hi => Or.inl (by
     have h1:i=g:=hi;rw [h1]
     exact HG.out))⟩
  | some sm =>
    rw [vI_some,oI_some];have hsum:=sum_parts (bs:=bs);have hple:=plainTo_le bs 512;have hsle:=sumTo_le bs 512;have hpf:=plainTo_le (fieldB bs 6) 8;obtain ⟨X,hX⟩:∃ X:Int,X=(sumTo bs 512:Nat):=⟨_,rfl⟩
    have hS:((plainTo bs 512:Nat):Int) - (plainTo (readO bs 6) 8:Nat)+256=X:=by
     rw [readO_at bs 6 (by omega),hX];omega
    have HS:=Lib.hid hS;have HX:=Lib.hid hX;have HPS0:=Lib.hid hps;have hbat2:BAt w2 p 512 bs:=(H.out.kept HK0.out (fun _ _ _ => id)).kept HK2.out (fun _ _ _ => id)
    have HB2:=Lib.hid hbat2;clear hsum hple hsle hpf hX hS hps hbat2
    by_cases hsX:sm=X
    ·subst hsX
     have HPS:Hid (parseF (fieldB bs 6)=some (sumTo bs 512:Int)):=Lib.hid (by rw [HPS0.out,HX.out])
     have hbX:(sm == sm)=true:=by simp
     go_wp2_with fail
     refine (sum_any g' B r (readO bs) p 512 c bs w2 (by omega) HB2.out HP2.out).mono ?_
     rintro e w2' ⟨rfl,rfl⟩;rw [HS.out];have lk9:(Instr.lookup 117 (.map (some B)) (.int .i64 9) false).run Tryz.prog w2=.ok (.agg #[.int .i64 257,.slice (some ⟨r 9,0,none⟩) 8 8]) w2:=lookB HP2.out 9 (by omega)
     have cs9:(convert 24 9 (.slice (some ⟨r 9,0,none⟩) 8 8)).run Tryz.prog w2=.ok (.string (str (fieldB bs 9))) w2:=by
      have:=conv_at (P:=Tryz.prog) (HP2.out.bat (i:=9) (by omega)) (HP2.out.fit 9) 24 5 9 Tryz.underlying24 Tryz.underlying5 Tryz.underlying9 8
      rw [readO_at bs 9 (by omega)] at this
      exact this
     by_cases hu:fieldB bs 9=ustarB
     ·have HM9:Hid (fieldB bs 9=ustarB ∨ fieldB bs 9=gnuB):=Lib.hid (Or.inl hu)
      have hm9:=hu;rw [hu,ustar_str] at cs9;clear hu;have HMF:Hid (gnuOf bs=false):=Lib.hid (by rw [gnuOf,hm9];decide)
      go_wp2_with fail
      refine (numbers_any g' B r (readO bs) w2 HP2.out).mono ?_
      intro e w3 h3;obtain ⟨hk3,(⟨hok,Q,rfl,hQ⟩ | ⟨hno,rfl⟩)⟩:=h3
      ·have HT:Hid (headR bs=(theHead bs,0)):=Lib.hid (headR_ok HN.out HPS.out HM9.out (by rw [← numsO_read];exact hok))
       have HK3:=Lib.hid (HK2.out.trans hk3);have HG3:=Lib.hid (hk3.some_ HG2.out id);have HP3:=Lib.hid (HP2.out.kept0 hk3);have HQ3:=Lib.hid hQ
       have hoff:Q≠g∧B≠g ∧ ∀ i,i < 11 → r i≠g:=by
        have h2:=HGL.out;have h3:=HLO.out;refine ⟨fun e => ?_,fun e => ?_,fun i hi e => ?_⟩
        ·obtain ⟨es,clock,hb,_⟩:=hQ
         have h1:=HG3.out;rw [← e,hb] at h1
         cases h1
        ·have h1:=HP3.out.lo.1
         omega
        ·have h1:=HP3.out.lo.2 i hi
         omega
       have HOFF:=Lib.hid hoff;clear hoff
       have HALL:Hid (∀ w',Kept (oneB g) w3 w' →
        (Instr.lookup 124 (.map (some Q)) (.int .i64 1) false).run Tryz.prog w'=.ok (.int .i64 (valB bs 1)) w' ∧
        (Instr.lookup 124 (.map (some Q)) (.int .i64 2) false).run Tryz.prog w'=.ok (.int .i64 (valB bs 2)) w' ∧
        (Instr.lookup 124 (.map (some Q)) (.int .i64 3) false).run Tryz.prog w'=.ok (.int .i64 (valB bs 3)) w' ∧
        (Instr.lookup 124 (.map (some Q)) (.int .i64 4) false).run Tryz.prog w'=.ok (.int .i64 (valB bs 4)) w' ∧
        (Instr.lookup 124 (.map (some Q)) (.int .i64 5) false).run Tryz.prog w'=.ok (.int .i64 (valB bs 5)) w'):=Lib.hid (fun w' hk => by
        have hq:=HQ3.out.kept hk HOFF.out.1
        have lk:∀ i,1≤i → i≤5 → (Instr.lookup 124 (.map (some Q)) (keyV i) false).run Tryz.prog w'=.ok (.int .i64 (valB bs i)) w':=fun i h1 h2 =>
         hq.look (P:=Tryz.prog) Tryz.underlying124 Tryz.underlying123 (by rw [numF_at _ h1 h2,readO_at bs i (by omega)];rfl)
        exact ⟨lk 1 (by omega) (by omega),lk 2 (by omega) (by omega),lk 3 (by omega) (by omega),lk 4 (by omega) (by omega),lk 5 (by omega) (by omega)⟩)
       clear hk3 hok hQ
       go_wp2_with fail
       refine wp_region_any (by kernel_rfl) (parse_region (w3:=w3) g g' B Q r (readO bs) ⟨#[117,115,116,97,114,0,48,48]⟩ false (valB bs 1) (valB bs 2) (valB bs 3) (valB bs 4) (valB bs 5) (show 73≤73 from Nat.le_refl 73) rfl rfl rfl rfl HP3.out HOFF.out.2.1 HOFF.out.2.2 HG3.out (fun w' hk => HALL.out w' hk) (by rw [← ustar_str,str_toList];decide) ?_)
       intro a' w' hd' h2' h3' hw' hk';have hT:(theHead bs).gnu=false:=HMF.out
       have HFIN:Hid (headA (headR bs)=.tuple #[.agg #[.string (str (nameF (untilB (readO bs 10)) (untilB (readO bs 0)) false)),.string (str (untilB (readO bs 8))),.int .u8 ((kindO (readO bs 7)).toNat:Int),.int .i64 (valB bs 1),.int .i64 (valB bs 2),.int .i64 (valB bs 3),.int .i64 (valB bs 5),.int .i64 (valB bs 4),.bool false],.int .i64 0]):=Lib.hid (by
        rw [HT.out];simp only [headA,headC,theHead,HMF.out]
        rfl)
       simp only [Exit.then]
       apply_assumption
       go_wp2
       refine bodyPost_ret (ret_head rfl _ _ g (.int .i64 0) h2' h3' _ _ _ _ _ _ _ _ _ hw') hd' ?_
       rw [HFIN.out]
       exact ⟨rfl,(HK0.out.trans HK3.out).then hk' (fun i hi => Or.inl (by
        have h1:i=g:=hi;rw [h1]
        exact HG.out))⟩
      ·have E:Hid (headR bs=(zeroH,4)):=Lib.hid (headR_num HN.out HPS.out HM9.out (by rw [← numsO_read];exact hno))
       have HK3:=Lib.hid (HK2.out.trans hk3);have HG3:=Lib.hid (hk3.some_ HG2.out id);have c0:=cellsAt HG3.out;have f0:=cellsFrozen HG3.out;unfold zeroCs at c0;clear hk3 hno
       go_wp2
       refine bodyPost_ret (ret_head rfl _ _ g _ rfl rfl ⟨#[]⟩ ⟨#[]⟩ 0 0 0 0 0 0 false (stored9 HG3.out _ _ _ _ _ _ _ _ _)) rfl ?_
       rw [E.out]
       exact ⟨rfl,(HK0.out.trans HK3.out).then (kept9 (Kept.refl (oneB g) _) _ _ _ _ _ _ _ _ _) (fun i hi => Or.inl (by
        have h1:i=g:=hi;rw [h1]
        exact HG.out))⟩
     ·by_cases hgn:fieldB bs 9=gnuB
      ·have HM9:Hid (fieldB bs 9=ustarB ∨ fieldB bs 9=gnuB):=Lib.hid (Or.inr hgn)
       have hm9:=hgn;rw [hgn,gnu_str] at cs9;clear hu hgn;have HMF:Hid (gnuOf bs=true):=Lib.hid (by rw [gnuOf,hm9];decide)
       go_wp2_with fail
       refine (numbers_any g' B r (readO bs) w2 HP2.out).mono ?_
       intro e w3 h3;obtain ⟨hk3,(⟨hok,Q,rfl,hQ⟩ | ⟨hno,rfl⟩)⟩:=h3
       ·have HT:Hid (headR bs=(theHead bs,0)):=Lib.hid (headR_ok HN.out HPS.out HM9.out (by rw [← numsO_read];exact hok))
        have HK3:=Lib.hid (HK2.out.trans hk3);have HG3:=Lib.hid (hk3.some_ HG2.out id);have HP3:=Lib.hid (HP2.out.kept0 hk3);have HQ3:=Lib.hid hQ
        have hoff:Q≠g∧B≠g ∧ ∀ i,i < 11 → r i≠g:=by
         have h2:=HGL.out;have h3:=HLO.out;refine ⟨fun e => ?_,fun e => ?_,fun i hi e => ?_⟩
         ·obtain ⟨es,clock,hb,_⟩:=hQ
          have h1:=HG3.out;rw [← e,hb] at h1
          cases h1
         ·have h1:=HP3.out.lo.1
          omega
         ·have h1:=HP3.out.lo.2 i hi
          omega
        have HOFF:=Lib.hid hoff;clear hoff
        have HALL:Hid (∀ w',Kept (oneB g) w3 w' →
         (Instr.lookup 124 (.map (some Q)) (.int .i64 1) false).run Tryz.prog w'=.ok (.int .i64 (valB bs 1)) w' ∧
         (Instr.lookup 124 (.map (some Q)) (.int .i64 2) false).run Tryz.prog w'=.ok (.int .i64 (valB bs 2)) w' ∧
         (Instr.lookup 124 (.map (some Q)) (.int .i64 3) false).run Tryz.prog w'=.ok (.int .i64 (valB bs 3)) w' ∧
         (Instr.lookup 124 (.map (some Q)) (.int .i64 4) false).run Tryz.prog w'=.ok (.int .i64 (valB bs 4)) w' ∧
         (Instr.lookup 124 (.map (some Q)) (.int .i64 5) false).run Tryz.prog w'=.ok (.int .i64 (valB bs 5)) w'):=Lib.hid (fun w' hk => by
         have hq:=HQ3.out.kept hk HOFF.out.1
         have lk:∀ i,1≤i → i≤5 → (Instr.lookup 124 (.map (some Q)) (keyV i) false).run Tryz.prog w'=.ok (.int .i64 (valB bs i)) w':=fun i h1 h2 =>
          hq.look (P:=Tryz.prog) Tryz.underlying124 Tryz.underlying123 (by rw [numF_at _ h1 h2,readO_at bs i (by omega)];rfl)
         exact ⟨lk 1 (by omega) (by omega),lk 2 (by omega) (by omega),lk 3 (by omega) (by omega),lk 4 (by omega) (by omega),lk 5 (by omega) (by omega)⟩)
        clear hk3 hok hQ
        go_wp2_with fail
        refine wp_region_any (by kernel_rfl) (parse_region (w3:=w3) g g' B Q r (readO bs) ⟨#[117,115,116,97,114,32,32,0]⟩ true (valB bs 1) (valB bs 2) (valB bs 3) (valB bs 4) (valB bs 5) (show 73≤73 from Nat.le_refl 73) rfl rfl rfl rfl HP3.out HOFF.out.2.1 HOFF.out.2.2 HG3.out (fun w' hk => HALL.out w' hk) (by rw [← gnu_str,str_toList];decide) ?_)
        intro a' w' hd' h2' h3' hw' hk';have hT:(theHead bs).gnu=true:=HMF.out
        have HFIN:Hid (headA (headR bs)=.tuple #[.agg #[.string (str (nameF (untilB (readO bs 10)) (untilB (readO bs 0)) true)),.string (str (untilB (readO bs 8))),.int .u8 ((kindO (readO bs 7)).toNat:Int),.int .i64 (valB bs 1),.int .i64 (valB bs 2),.int .i64 (valB bs 3),.int .i64 (valB bs 5),.int .i64 (valB bs 4),.bool true],.int .i64 0]):=Lib.hid (by
         rw [HT.out];simp only [headA,headC,theHead,HMF.out]
         rfl)
        simp only [Exit.then]
        apply_assumption
        go_wp2
        refine bodyPost_ret (ret_head rfl _ _ g (.int .i64 0) h2' h3' _ _ _ _ _ _ _ _ _ hw') hd' ?_
        rw [HFIN.out]
        exact ⟨rfl,(HK0.out.trans HK3.out).then hk' (fun i hi => Or.inl (by
         have h1:i=g:=hi;rw [h1]
         exact HG.out))⟩
       ·have E:Hid (headR bs=(zeroH,4)):=Lib.hid (headR_num HN.out HPS.out HM9.out (by rw [← numsO_read];exact hno))
        have HK3:=Lib.hid (HK2.out.trans hk3);have HG3:=Lib.hid (hk3.some_ HG2.out id);have c0:=cellsAt HG3.out;have f0:=cellsFrozen HG3.out;unfold zeroCs at c0;clear hk3 hno
        go_wp2
        refine bodyPost_ret (ret_head rfl _ _ g _ rfl rfl ⟨#[]⟩ ⟨#[]⟩ 0 0 0 0 0 0 false (stored9 HG3.out _ _ _ _ _ _ _ _ _)) rfl ?_
        rw [E.out]
        exact ⟨rfl,(HK0.out.trans HK3.out).then (kept9 (Kept.refl (oneB g) _) _ _ _ _ _ _ _ _ _) (fun i hi => Or.inl (by
         have h1:i=g:=hi;rw [h1]
         exact HG.out))⟩
      ·have E:Hid (headR bs=(zeroH,9)):=Lib.hid (headR_text HN.out HPS.out ⟨hu,hgn⟩)
       have q1:((str (fieldB bs 9)).toList == [117,115,116,97,114,0,48,48])=false:=by rw [str_toList];exact beq_eq_false_iff_ne.2 hu
       have q2:((str (fieldB bs 9)).toList == [117,115,116,97,114,32,32,0])=false:=by rw [str_toList];exact beq_eq_false_iff_ne.2 hgn
       have c0:=cellsAt HG2.out;have f0:=cellsFrozen HG2.out;unfold zeroCs at c0;clear hu hgn
       go_wp2
       refine bodyPost_ret (ret_head rfl _ _ g _ rfl rfl ⟨#[]⟩ ⟨#[]⟩ 0 0 0 0 0 0 false (stored9 HG2.out _ _ _ _ _ _ _ _ _)) rfl ?_
       rw [E.out]
       exact ⟨rfl,(HK0.out.trans HK2.out).then (kept9 (Kept.refl (oneB g) _) _ _ _ _ _ _ _ _ _) (fun i hi => Or.inl (by
        have h1:i=g:=hi;rw [h1]
        exact HG.out))⟩
    ·have E:Hid (headR bs=(zeroH,3)):=Lib.hid (headR_sum HN.out (by
      rw [HPS0.out,← HX.out];intro e
      exact hsX (Option.some.inj e)))
     have hbX:(sm == X)=false:=by simpa using hsX
     have c0:=cellsAt HG2.out;have f0:=cellsFrozen HG2.out;unfold zeroCs at c0
     go_wp2_with fail
     refine (sum_any g' B r (readO bs) p 512 c bs w2 (by omega) HB2.out HP2.out).mono ?_
     rintro e w2' ⟨rfl,rfl⟩;rw [HS.out]
     go_wp2
     refine bodyPost_ret (ret_head rfl _ _ g _ rfl rfl ⟨#[]⟩ ⟨#[]⟩ 0 0 0 0 0 0 false (stored9 HG2.out _ _ _ _ _ _ _ _ _)) rfl ?_
     rw [E.out]
     exact ⟨rfl,(HK0.out.trans HK2.out).then (kept9 (Kept.refl (oneB g) _) _ _ _ _ _ _ _ _ _) (fun i hi => Or.inl (by
      have h1:i=g:=hi;rw [h1]
      exact HG.out))⟩
 ·have E:Hid (headR bs=(zeroH,1)):=Lib.hid (headR_arg (by rw [HN.out];exact h512))
  have hb:((n:Int) == 512)=false:=by simp;omega
  have hk0:Kept noneB w (w.alloc (.cells #[.string ⟨#[]⟩,.string ⟨#[]⟩,.int .u8 0,.int .i64 0,.int .i64 0,.int .i64 0,.int .i64 0,.int .i64 0,.bool false] 41)):=(Kept.refl noneB w).alloc _;have HK0:=Lib.hid hk0;clear hk0
  go_enter Tryz.func54,Tryz.ntmps54
  go_wp2
  refine bodyPost_ret (ret_head rfl _ _ w.heap.size _ rfl rfl ⟨#[]⟩ ⟨#[]⟩ 0 0 0 0 0 0 false (heap_alloc_new _ _)) rfl ?_
  rw [E.out];exact ⟨rfl,HK0.out⟩
end Go.Proofs.YtnpkcneojilmkaaGreatDoor.Head
end
section
namespace Go.Proofs.YtnpkcneojilmkaaGreatDoor.Rec
open Go.ChangeShapes Go.WideShapes Go.ChangeAt Go.RowKit Base Byt Txt Path Go.Lib
set_option linter.unusedVariables false
set_option maxRecDepth 100000
def RecsPost (R T:Int) (l:List UInt8) (w:World) (e:Ending) (w':World):Prop:=
 ∃ p c,e=.returned (.tuple #[.slice p (recsD R T l).1.length c,.int .i64 (recsD R T l).2])∧(recsD R T l).1.length≤c∧c≤maxLen∧RecsAt w' p (recsD R T l).1.length (recsD R T l).1∧Below w.heap.size w w'
theorem recs_err (R T:Int) (l:List UInt8) (w w':World) (er:Int) (h:recsD R T l=([],er)) (hb:Below w.heap.size w w'):RecsPost R T l w (.returned (.tuple #[.slice none 0 0,.int .i64 er])) w':=
 ⟨none,0,by rw [h];rfl,by rw [h];exact Nat.le_refl _,by decide,by rw [h];exact ⟨rfl,fun h => absurd h (by simp)⟩,hb⟩
end Go.Proofs.YtnpkcneojilmkaaGreatDoor.Rec
end
