/- Texts of this seat, merged: what the proof reaches. -/
import Derived.Test.YtnpkcneojilmkaaDoorWriteShortX8
import Derived.Laws.AppendOwn
import Derived.OwnWalk
import Derived.Deep.RegionHeldLaw
import Derived.Laws.AppendOwnNone
import Derived.Test.YtnpkcneojilmkaaDoorWriteShortX17
import Derived.Laws.StructEq
import Derived.BigQuiet
section
namespace Go.Proofs.YtnpkcneojilmkaaDoor.Rec
open Go.ChangeShapes Go.WideShapes Go.ChangeAt Go.RowKit Base Byt Txt Path Go.Lib
set_option linter.unusedVariables false
set_option maxRecDepth 100000
def flatR (rs:List (List UInt8 × List UInt8)):List Value:=rs.flatMap fun r => [.string (str r.1),.string (str r.2)]
theorem flatR_length (rs:List (List UInt8 × List UInt8)):(flatR rs).length=2 * rs.length:=by
 induction rs with
 | nil => rfl
 | cons r rs ih => simp only [flatR,List.flatMap_cons,List.length_append,List.length_cons,List.length_nil] at ih ⊢;omega
theorem flatR_get (rs:List (List UInt8 × List UInt8)):∀ i,i < rs.length → (flatR rs)[2 * i]? = some (.string (str (rs.getD i ([],[])).1))∧(flatR rs)[2 * i+1]? = some (.string (str (rs.getD i ([],[])).2)):=by
 induction rs with
 | nil => intro i h;simp at h
 | cons r rs ih =>
   intro i h
   cases i with
   | zero => exact ⟨rfl,rfl⟩
   | succ i =>
     have:=ih i (by simpa using h)
     have e:flatR (r :: rs)=.string (str r.1) :: .string (str r.2) :: flatR rs:=rfl;rw [e,show 2 * (i+1)=2 * i+1+1 by omega]
     simpa using this
def RecsAt (w:World) (p:Option Addr) (n:Nat) (rs:List (List UInt8 × List UInt8)):Prop:=
 rs.length=n∧(0 < n → ∃ b o,p=some ⟨b,o,none⟩∧b < w.heap.size ∧ ∀ i,i < n → w.cell? ⟨b,o+2 * i,none⟩=some (.string (str (rs.getD i ([],[])).1))∧w.cell? ⟨b,o+2 * i+1,none⟩=some (.string (str (rs.getD i ([],[])).2)))
theorem RecsAt.below {w w':World} {p:Option Addr} {n:Nat} {rs:List (List UInt8 × List UInt8)} (h:RecsAt w p n rs) (hb:Below w.heap.size w w'):RecsAt w' p n rs:=by
 refine ⟨h.1,fun h0 => ?_⟩
 obtain ⟨b,o,rfl,hbw,hc⟩:=h.2 h0;refine ⟨b,o,rfl,Nat.lt_of_lt_of_le hbw hb.size,fun i hi => ⟨?_,?_⟩⟩
 ·rw [hb.cell (p:=⟨b,o+2 * i,none⟩) hbw];exact (hc i hi).1
 ·rw [hb.cell (p:=⟨b,o+2 * i+1,none⟩) hbw];exact (hc i hi).2
theorem recs_own {w:World} {base:Nat} {e:TypeId} {v:Value} {rs:List (List UInt8 × List UInt8)} (h:w.ownsRow base e 2 v rs.length (flatR rs)):∃ p c,v=.slice p rs.length c∧rs.length≤c∧c≤maxLen∧RecsAt w p rs.length rs:=by
 rcases h.2 with ⟨rfl,h0⟩ | ⟨g,cap,cur,rfl,hb,hg,hn,hc,hs,ht⟩
 ·exact ⟨none,0,by rw [h0],by omega,by decide,rfl,fun h => by omega⟩
 ·refine ⟨some ⟨g,0,none⟩,cap,rfl,hn,hc,rfl,fun h0 => ⟨g,0,rfl,(Array.getElem?_eq_some_iff.1 hg).1,fun i hi => ?_⟩⟩
  have get:∀ j,j < 2 * rs.length → w.cell? ⟨g,j,none⟩=(flatR rs)[j]?:=fun j hj => by
   unfold World.cell?;rw [hg,← ht,List.getElem?_take,if_pos (by omega)]
   simp
  obtain ⟨g1,g2⟩:=flatR_get rs i hi;rw [Nat.zero_add];exact ⟨by rw [get _ (by omega)];exact g1,by rw [get _ (by omega)];exact g2⟩
theorem infoRec:(Tryd.prog.info? 52).map (fun i => (i.zero,i.size,i.bytes))=some (some (.agg #[.string ⟨#[]⟩,.string ⟨#[]⟩]),2,32):=by kernel_rfl
end Go.Proofs.YtnpkcneojilmkaaDoor.Rec
end
section
namespace Go.Proofs.YtnpkcneojilmkaaDoor.Rec
open Go.ChangeShapes Go.WideShapes Go.ChangeAt Go.RowKit Base Byt Txt Go.Lib
set_option linter.unusedVariables false
theorem flatR_app (a b:List (List UInt8 × List UInt8)):flatR (a++b)=flatR a++flatR b:=by simp [flatR]
theorem flatR_one (rs:List (List UInt8 × List UInt8)):∀ u ∈ flatR rs,u.oneCell'=true:=by
 intro u hu;obtain ⟨r,_,hr⟩:=List.mem_flatMap.1 hu;rcases List.mem_cons.1 hr with rfl | hr
 ·rfl
 ·rcases List.mem_cons.1 hr with rfl | hr
  ·rfl
  ·cases hr
theorem append_recs {P:Program} {w:World} {ops:Array Oper} {rest:List Oper} {o:Oper} {a:Act} {Q:Exit → Act → World → Prop} (hgd:o.guard=none) (s x:Operand) (t:TypeId)
 (ho:o.op=.call { callee:=.builtin .append,args:=#[s,x],argTypes:=#[t,t] })
 (base:Nat) (e:TypeId) (i:TypeInfo) (z:Value) (ht:P.underlying t=some (.slice e)) (hi:P.info? e=some i) (hz:i.zero=some z) (hsize:i.size=2) (hby:i.bytes=32) (hzs:z.cells.size=2)
 (v:Value) (n:Nat) (xs:List (List UInt8 × List UInt8)) (hs:a.eval s=v) (hown:w.ownsRow base e 2 v n (flatR xs))
 (p:Option Addr) (m c:Nat) (rs:List (List UInt8 × List UInt8)) (hx:a.eval x=.slice p m c) (hb:RecsAt w p m rs) (hsum:(n+m) * 32≤140737488355328) (hbase:base≤w.heap.size)
 (h:∀ v' w',w'.ownsRow base e 2 v' (n+m) (flatR (xs++rs)) → w.grownBy w' v.ownBlock → wpList P ops Q rest (a.put o.dst v') w'):wpList P ops Q (o :: rest) a w:=by
 have hl:=hb.1;rcases p with _ | ad
 ·have hm:m=0:=by
   rcases Nat.eq_zero_or_pos m with h0 | h0
   ·exact h0
   ·obtain ⟨_,_,he,_⟩:=hb.2 h0
    cases he
  subst hm;obtain rfl:rs=[]:=List.eq_nil_of_length_eq_zero hl
  have hrun:(Builtin.append_ #[t,t] o.type #[v,.slice none 0 c]).run P w=.ok v w:=by
   rcases hown.2 with ⟨rfl,rfl⟩ | ⟨g,cap,cur,rfl,_,_,hnc,_⟩
   ·simp [Builtin.append_,run_underlying ht,sizeOf,typeInfo,hi,Builtin.lenOf,Builtin.firstCells]
   ·simp [Builtin.append_,run_underlying ht,sizeOf,typeInfo,hi,Builtin.lenOf,Builtin.firstCells,hnc,storeCells]
  refine wpList_plain hgd fun K hK => ?_
  unfold Oper.wp;simp [execOp,ho,resolve,invoke,builtin,hs,hx,hrun,Result.andThen];exact hK _ _ (h v w (by simpa using hown) (World.grownBy.refl w _))
 ·refine wpList_append_own w hgd s x t ho base e i z 2 32 ht hi hz hsize hby hzs (by decide) v n (flatR xs) hs hown ad m c (flatR rs) hx (by rw [flatR_length,hl];omega) ?_ (flatR_one rs) (by unfold maxLen;omega) hsum hbase ?_
  ·intro j u hj
   have hjl:j < 2 * m:=by
    have:=(List.getElem?_eq_some_iff.1 hj).1;rw [flatR_length,hl] at this;exact this
   obtain ⟨b,off,he,_,hc⟩:=hb.2 (by omega)
   cases he
   obtain ⟨c0,c1⟩:=hc (j / 2) (by omega)
   obtain ⟨g0,g1⟩:=flatR_get rs (j / 2) (by omega)
   rw [WideShapes.add_plain];rcases Nat.mod_two_eq_zero_or_one j with hj2 | hj2
   ·have e:j=2 * (j / 2):=by omega
    rw [e] at hj;rw [g0] at hj
    cases hj
    rw [show off+j=off+2 * (j / 2) by omega]
    exact c0
   ·have e:j=2 * (j / 2)+1:=by omega
    rw [e] at hj;rw [g1] at hj
    cases hj
    rw [show off+j=off+2 * (j / 2)+1 by omega]
    exact c1
  ·intro v' w' h1 h2 _
   rw [← flatR_app] at h1;exact h v' w' h1 h2
end Go.Proofs.YtnpkcneojilmkaaDoor.Rec
end
section
namespace Go.Proofs.YtnpkcneojilmkaaDoor.Head
open Go.ChangeShapes Go.WideShapes Go.ChangeAt Go.RowKit Base Byt Txt Hp Go.Proofs.YtnpkcneojilmkaaDoor.Mp Go.Lib
set_option linter.unusedVariables false
set_option maxRecDepth 100000
theorem iter_off {w:World} {B R g:Nat} {f:Nat → Option Value} {todo:Nat → Bool} {bs:List UInt8} (h:IterF w B R f todo) (hr:RowB w g bs):g≠B∧g≠R:=by
 obtain ⟨es,clock,since,seen,c0,hb,hs,h1,h2,hR,_⟩:=h;unfold RowB at hr;refine ⟨fun e => ?_,fun e => ?_⟩
 ·rw [e,hb] at hr;cases hr
 ·rw [e,hR] at hr;cases hr
theorem iter_ne {w:World} {B R:Nat} {f:Nat → Option Value} {todo:Nat → Bool} (h:IterF w B R f todo) (e:B=R):False:=by
 obtain ⟨es,clock,since,seen,c0,hb,hs,h1,h2,hR,_⟩:=h;rw [← e,hb] at hR
 cases hR
def mixO (todo:Nat → Bool) (a b:Nat → List UInt8):Nat → List UInt8:=fun i => if todo i=true then a i else b i
theorem mix_fits {todo:Nat → Bool} {a b:Nat → List UInt8} (ha:Fits a) (hb:Fits b):Fits (mixO todo a b):=fun i => by
 unfold mixO
 split
 ·exact ha i
 ·exact hb i
theorem mix_done {todo:Nat → Bool} {a b:Nat → List UInt8} (ha:Fits a) (hb:Fits b) (h:∀ i,i < 11 → todo i=false):mixO todo a b=b:=
 fits_ext (mix_fits ha hb) hb fun i hi => by unfold mixO;rw [if_neg (by simp [h i hi])]
theorem mix_step {todo:Nat → Bool} {a b:Nat → List UInt8} (j:Nat):upd (mixO todo a b) j (b j)=mixO (fun z => todo z && z != j) a b:=by
 funext i
 by_cases hi:i=j
 ·subst hi
  rw [upd_same,mixO,if_neg (by simp)]
 ·rw [upd_other _ _ hi,mixO,mixO]
  have:(i != j)=true:=by simpa using hi
  simp [this]
theorem partF_val (r:Nat → Nat):∀ j v,partF r j=some v → v=partV r j:=fun j v h => by
 unfold partF at h
 split at h
 ·exact (Option.some.inj h).symm
 ·cases h
theorem partF_lt {r:Nat → Nat} {j:Nat} {v:Value} (h:partF r j=some v):j < 11:=by
 unfold partF at h
 split at h
 ·assumption
 ·cases h
theorem infoSz:(Tryd.prog.info? 5).map (·.size)=some 1:=by kernel_rfl
theorem putInto_all {old cs:List UInt8} (h:cs.length=old.length):putInto old cs=cs:=by
 simp [putInto,List.drop_eq_nil_of_le (show old.length≤cs.length by omega)]
set_option maxHeartbeats 1000000 in
theorem put_field (lo B:Nat) (r:Nat → Nat) (own:Nat → List UInt8) (i:Nat) (s:ByteArray) (w:World) (hi:i < 11) (hP:PartsAt w lo B r own) :
 Calls Tryd.prog 67 #[.map (some B),.int .i64 (i:Int),.string s] w fun e w' => e=.returned (.tuple #[])∧PartsAt w' lo B r (upd own i (putInto (own i) (s.data.toList.take (wideF i))))∧Kept (oneB (r i)) w w'∧w'.heap.size=w.heap.size:=by
 have fl:=field_own
 have lk:(Instr.lookup 95 (.map (some B)) (.int .i64 (i:Int)) false).run Tryd.prog w=.ok (.agg #[.int .i64 (atF i),.slice (some ⟨r i,0,none⟩) (wideF i) (wideF i)]) w:=
  hP.map.look (P:=Tryd.prog) Tryd.underlying95 Tryd.underlying99 (x:=i) (v:=partV r i) (by unfold partF;rw [if_pos hi])
 have hfit:=hP.fit i;have HP:=Lib.hid hP;obtain ⟨cs,hcs⟩:∃ cs,cs=s.data.toList.take (wideF i):=⟨_,rfl⟩;have hcl:cs.length≤wideF i:=by rw [hcs,List.length_take];omega
 have HC:=Lib.hid hcs;rw [← hcs];clear hP hcs
 go_enter Tryd.func67,Tryd.ntmps67
 go_wp2_with (first | (refine wpList_copyS rfl _ _ 24 9 rfl 5 Tryd.underlying24 infoSz (some ⟨r i,0,none⟩) (wideF i) (wideF i) s rfl rfl (r i) 0 (own i) (HP.out.row i hi) cs HC.out (fun _ => rfl) (by rw [Nat.zero_add,hfit];exact hcl) ?_;intro w1 hr hk hs) | go_in)
 refine bodyPost_end (results_none rfl _ _ _) rfl ?_
 refine ⟨rfl,HP.out.wrote hi hk (by rw [putInto_length (by rw [hfit];exact hcl)];exact hfit) ?_,hk,hs⟩
 rw [← splice_zero];exact hr.out
set_option maxHeartbeats 2000000 in
theorem block_any (lo B:Nat) (r:Nat → Nat) (own:Nat → List UInt8) (w:World) (hP0:PartsAt w lo B r own) :
 Calls Tryd.prog 70 #[.map (some B)] w fun e w' => ∃ g,e=.returned (.slice (some ⟨g,0,none⟩) 512 512)∧RowB w' g (blockA own)∧w.heap.size≤g∧Kept noneB w w':=by
 obtain ⟨i0,hi0,hz0,hz1,hz2⟩:=info_parts infoU8;have HIN:=Lib.hid hi0;have HZ0:=Lib.hid hz0;have HZ1:=Lib.hid hz1;have HZ2:=Lib.hid hz2;have HP0:=Lib.hid hP0;have HLO:Hid (B < w.heap.size ∧ ∀ i,i < 11 → r i < w.heap.size):=Lib.hid ⟨hP0.map.lt,fun i hi => (hP0.row i hi).lt⟩
 clear hi0 hz0 hz1 hz2 hP0
 go_enter Tryd.func70,Tryd.ntmps70
 go_wp2_with (at_make;refine wpList_make_full _ rfl _ _ 24 rfl w.heap.size 5 i0 (.int .u8 0) 1 Tryd.underlying24 HIN.out HZ0.out HZ1.out .i64 .i64 _ _ 512 rfl rfl rfl rfl (by rw [HZ2.out];omega) (by decide) (Nat.le_refl _) ?_)
 intro w1 hown hgrow;have hrow1:=rowB_own hown;rw [← blockA_zero] at hrow1;have hk1:Kept noneB w w1:=(Kept.refl noneB w).grown hgrow (fun k hk => by cases hk)
 obtain ⟨g,hg⟩:∃ g,g=w.heap.size:=⟨_,rfl⟩;rw [← hg] at hrow1 ⊢;have HP1:=Lib.hid (HP0.out.kept0 hk1);have HROW1:=Lib.hid hrow1;have HK1:=Lib.hid hk1;have HGE:Hid (w.heap.size≤g):=Lib.hid (by omega)
 clear hown hgrow hrow1 hk1;obtain ⟨R,hR⟩:∃ R,R=w1.heap.size:=⟨_,rfl⟩
 go_wp2_with (first | (at_range;refine wpList_rangeF rfl _ rfl Tryd.underlying95 B HP1.out.map (fun _ => true) (fun _ _ _ => rfl) rfl R hR ?_;intro w2 HI hk2 hs2) | go_in)
 have HK2:=Lib.hid (HK1.out.trans hk2.out);have HP2:=Lib.hid (HP1.out.kept0 hk2.out);have HROW2:=Lib.hid (HROW1.out.kept hk2.out id);have HRL:Hid (w.heap.size≤R):=Lib.hid (by rw [hR];exact HK1.out.size)
 clear hk2 hs2 hR hg
 try go_frame
 go_loopw [9] (fun _ wr => ∃ todo,Hid (IterF wr B R (partF r) todo)∧Hid (PartsAt wr lo B r own)∧Hid (RowB wr g (blockA (mixO todo zeroO own)))∧Hid (Kept noneB w wr)) (fun _ wr => wr.rangeLeft B R)
 case atStart => exact ⟨fun _ => true,HI,HP2,by
  have e:mixO (fun _ => true) zeroO own=zeroO:=by funext i;exact if_pos rfl
  rw [e];exact HROW2,HK2⟩
 case round =>
  obtain ⟨todo,hI,hP,hG,hK⟩:=hrel
  go_wp2_with (at_next;refine wpList_nextF rfl _ rfl B R todo (partV r) (partF_val r) rfl hI.out ?_ ?_)
  ·intro hd
   have hall:∀ i,i < 11 → todo i=false:=fun i hi => hd i (partV r i) (by unfold partF;rw [if_pos hi])
   have HD:=Lib.hid (mix_done (todo:=todo) zeroO_fits hP.out.fit hall);clear hd hall
   go_wp2
   go_ret
   refine ⟨g,rfl,?_,HGE.out,hK.out⟩;rw [← HD.out];exact hG.out
  ·intro j w3 v hj htj HI3 HLT HK3 hs3 hen
   have hj:=partF_lt hj;have hen':(Instr.entry (.pointer (some ⟨R,0,none⟩))).run Tryd.prog w3=.ok (.tuple #[.int .i64 (j:Int),.agg #[.int .i64 (atF j),.slice (some ⟨r j,0,none⟩) (wideF j) (wideF j)]]) w3:=hen;have hw:=wide_pos hj;have hin:=field_in hj;have HJ:=Lib.hid hj;clear hen
   go_wp2_with fail
   obtain ⟨w4,hw4⟩:∃ w4,w4=w3.alloc (.cells #[.int .i64 (atF j),.slice (some ⟨r j,0,none⟩) (wideF j) (wideF j)] 105):=⟨_,rfl⟩;have hk4:Kept noneB w3 w4:=by rw [hw4];exact (Kept.refl _ _).alloc _
   have h4b:w4.heap[wr.heap.size]? = some (.cells #[.int .i64 (atF j),.slice (some ⟨r j,0,none⟩) (wideF j) (wideF j)] 105 (0,0)):=by rw [hw4,← hs3];exact heap_alloc_new _ _
   rw [← hw4];have hc0:w4.drew.cell? ⟨wr.heap.size,0,none⟩=some (.int .i64 (atF j)):=cellsAt (w:=w4) h4b 0;have hc1:w4.drew.cell? ⟨wr.heap.size,1,none⟩=some (.slice (some ⟨r j,0,none⟩) (wideF j) (wideF j)):=cellsAt (w:=w4) h4b 1;have hkR:Kept (oneB R) wr w4.drew:=HK3.out.trans (hk4.drew.of_none _);have hoff:=iter_off hI.out hG.out;have hP4:=hP.out.kept hkR (fun e => iter_ne hI.out e) (fun i hi e => (iter_off hI.out (hP.out.row i hi)).2 e)
   have hK4:=hK.out.then hkR (fun i hi => Or.inl (by
    have h1:i=R:=hi;rw [h1]
    exact HRL.out))
   have hI4:=HI3.out.kept (hk4.drew) id id;have hfl:(own j).length=wideF j:=hP.out.fit j;have hrow:RowB w4.drew g (blockA (mixO todo zeroO own)):=hG.out.kept hkR (fun e => hoff.2 e)
   have hsrc:BAt w4.drew (some ⟨r j,0,none⟩) (own j).length (own j):=by
    rw [hfl];exact hP4.bat hj
   have HP4:=Lib.hid hP4;have HK4:=Lib.hid hK4;have HI4:=Lib.hid hI4;have HOFF:=Lib.hid hoff;have HROW:=Lib.hid hrow;have HSRC:=Lib.hid hsrc;have HFL:=Lib.hid hfl;have HBLK:=Lib.hid h4b;have HMF:Hid (Fits (mixO todo zeroO own)):=Lib.hid (mix_fits zeroO_fits hP.out.fit);have hrl:Hid (w4.drew.rangeLeft B R < wr.rangeLeft B R):=Lib.hid (by rw [hI4.2];exact HLT.out)
   clear hkR hoff hP4 hK4 hI4 hfl hrow hsrc h4b hk4 hw4 hen'
   go_region_held_law (fun w' => w'.cell? ⟨wr.heap.size,0,none⟩=some (.int .i64 (atF j))∧w'.cell? ⟨wr.heap.size,1,none⟩=some (.slice (some ⟨r j,0,none⟩) (wideF j) (wideF j))) (first | exact ⟨hc0,hc1⟩ | exact hc5)
    (first
     | (refine step_copyB rfl _ _ 24 24 rfl 5 Tryd.underlying24 infoSz (some ⟨g,atF j,none⟩) (some ⟨r j,0,none⟩) (512 - atF j) (512 - atF j) (wideF j) (wideF j) rfl rfl g (atF j) (blockA (mixO todo zeroO own)) HROW.out (own j)
         (by rw [HFL.out];exact (Nat.min_eq_left (by omega)).symm) (fun _ => rfl) HSRC.out (by rw [HFL.out,blockA_length];omega) ?_
        intro w5 hr5 hk5 hs5;have hk5':=Lib.hid hk5
        have hc5:w5.cell? ⟨wr.heap.size,0,none⟩=some (.int .i64 (atF j))∧w5.cell? ⟨wr.heap.size,1,none⟩=some (.slice (some ⟨r j,0,none⟩) (wideF j) (wideF j)):=by
         have h5:w5.heap[wr.heap.size]? = _:=hk5.some_ (show w4.drew.heap[wr.heap.size]? = _ from HBLK.out) (fun e => by
          have h1:wr.heap.size=g:=e;have h2:=hG.out.lt
          omega)
         exact ⟨cellsAt h5 0,cellsAt h5 1⟩
        clear hk5))
   simp only [List.getElem_toArray,List.getElem_cons_succ,List.getElem_cons_zero]
   go_frame
   go_wp2
   go_roundw
   case rel =>
    have hk:=hk5'.out
    refine ⟨fun z => todo z && z != j,Lib.hid (HI4.out.1.kept hk (fun e => HOFF.out.1 (Eq.symm e)) (fun e => HOFF.out.2 (Eq.symm e))).1,Lib.hid (HP4.out.kept hk (fun e => ?_) (fun i hi e => ?_)),Lib.hid ?_,Lib.hid (HK4.out.then hk (fun i hi => Or.inl (by
     have h1:i=g:=hi;rw [h1]
     exact HGE.out)))⟩
    ·have h1:B=g:=e
     have h2:=HLO.out.1;have h3:=HGE.out;omega
    ·have h1:r i=g:=e
     have h2:=HLO.out.2 i hi;have h3:=HGE.out;omega
    ·have h1:=hr5.out
     rw [splice_blockA HMF.out HJ.out (by rw [HFL.out];exact Nat.le_refl _),putInto_all (by rw [HFL.out,HMF.out j]),mix_step] at h1
     exact h1
   case measure =>
    have hk:=hk5'.out;have h1:=(HI4.out.1.kept hk (fun e => HOFF.out.1 (Eq.symm e)) (fun e => HOFF.out.2 (Eq.symm e))).2
    have h2:=hrl.out;omega
end Go.Proofs.YtnpkcneojilmkaaDoor.Head
end
