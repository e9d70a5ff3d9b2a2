/- Texts of this seat, merged: what the proof reaches. -/
import Derived.Test.YtdjedimjhogdoaaGreatDoorMemberReadsX11
import Derived.Laws.AppendOwn
import Derived.OwnWalk
import Derived.Deep.RegionHeldLaw
import Derived.Test.YtdjedimjhogdoaaGreatDoorMemberReadsX21
import Derived.Test.YtdjedimjhogdoaaGreatDoorMemberReadsX20
import Derived.Carry
import Derived.Laws.ResultCell
import Derived.Test.YtdjedimjhogdoaaGreatDoorMemberReadsX13
import Derived.Shelf.Abstract
import Derived.Laws.StructEq
import Derived.BigQuiet
import Derived.Laws.AppendOwnNone
section
namespace Go.Proofs.YtdjedimjhogdoaaGreatDoor.Rec
open Go.ChangeShapes Go.WideShapes Go.ChangeAt Go.RowKit Base Byt Txt Path Go.Lib
set_option linter.unusedVariables false
set_option maxRecDepth 100000
def flatR (rs:List (List UInt8 × List UInt8)):List Value:=rs.flatMap fun r => [.string (str r.1),.string (str r.2)]
theorem flatR_length (rs:List (List UInt8 × List UInt8)):(flatR rs).length=2 * rs.length:=by
 induction rs with
 | nil => rfl
 | cons r rs ih => simp only [flatR,List.flatMap_cons,List.length_append,List.length_cons,List.length_nil] at ih ⊢;omega
theorem flatR_snoc (rs:List (List UInt8 × List UInt8)) (k v:List UInt8):flatR (rs++[(k,v)])=flatR rs++[.string (str k),.string (str v)]:=by simp [flatR]
theorem flatR_get (rs:List (List UInt8 × List UInt8)):∀ i,i < rs.length → (flatR rs)[2 * i]? = some (.string (str (rs.getD i ([],[])).1))∧(flatR rs)[2 * i+1]? = some (.string (str (rs.getD i ([],[])).2)):=by
 induction rs with
 | nil => intro i h;simp at h
 | cons r rs ih =>
   intro i h
   cases i with
   | zero => exact ⟨rfl,rfl⟩
   | succ i =>
     have:=ih i (by simpa using h)
     have e:flatR (r :: rs)=.string (str r.1) :: .string (str r.2) :: flatR rs:=rfl;rw [e,show 2 * (i+1)=2 * i+1+1 by omega]
     simpa using this
def RecsAt (w:World) (p:Option Addr) (n:Nat) (rs:List (List UInt8 × List UInt8)):Prop:=
 rs.length=n∧(0 < n → ∃ b o,p=some ⟨b,o,none⟩∧b < w.heap.size ∧ ∀ i,i < n → w.cell? ⟨b,o+2 * i,none⟩=some (.string (str (rs.getD i ([],[])).1))∧w.cell? ⟨b,o+2 * i+1,none⟩=some (.string (str (rs.getD i ([],[])).2)))
theorem RecsAt.below {w w':World} {p:Option Addr} {n:Nat} {rs:List (List UInt8 × List UInt8)} (h:RecsAt w p n rs) (hb:Below w.heap.size w w'):RecsAt w' p n rs:=by
 refine ⟨h.1,fun h0 => ?_⟩
 obtain ⟨b,o,rfl,hbw,hc⟩:=h.2 h0;refine ⟨b,o,rfl,Nat.lt_of_lt_of_le hbw hb.size,fun i hi => ⟨?_,?_⟩⟩
 ·rw [hb.cell (p:=⟨b,o+2 * i,none⟩) hbw];exact (hc i hi).1
 ·rw [hb.cell (p:=⟨b,o+2 * i+1,none⟩) hbw];exact (hc i hi).2
theorem recs_own {w:World} {base:Nat} {e:TypeId} {v:Value} {rs:List (List UInt8 × List UInt8)} (h:w.ownsRow base e 2 v rs.length (flatR rs)):∃ p c,v=.slice p rs.length c∧rs.length≤c∧c≤maxLen∧RecsAt w p rs.length rs:=by
 rcases h.2 with ⟨rfl,h0⟩ | ⟨g,cap,cur,rfl,hb,hg,hn,hc,hs,ht⟩
 ·exact ⟨none,0,by rw [h0],by omega,by decide,rfl,fun h => by omega⟩
 ·refine ⟨some ⟨g,0,none⟩,cap,rfl,hn,hc,rfl,fun h0 => ⟨g,0,rfl,(Array.getElem?_eq_some_iff.1 hg).1,fun i hi => ?_⟩⟩
  have get:∀ j,j < 2 * rs.length → w.cell? ⟨g,j,none⟩=(flatR rs)[j]?:=fun j hj => by
   unfold World.cell?;rw [hg,← ht,List.getElem?_take,if_pos (by omega)]
   simp
  obtain ⟨g1,g2⟩:=flatR_get rs i hi;rw [Nat.zero_add];exact ⟨by rw [get _ (by omega)];exact g1,by rw [get _ (by omega)];exact g2⟩
theorem infoRec:(Tryz.prog.info? 53).map (fun i => (i.zero,i.size,i.bytes))=some (some (.agg #[.string ⟨#[]⟩,.string ⟨#[]⟩]),2,32):=by kernel_rfl
theorem digN_is (l:List UInt8):∀ k,k≤l.length → (∀ j,j < k → isDig (l.getD j 0)=true) → (k=l.length ∨ isDig (l.getD k 0)=false) → digN l=k:=by
 unfold digN
 induction l with
 | nil => intro k h _ _;simp at h;simp [h]
 | cons b l ih =>
   intro k hk hd he
   cases k with
   | zero =>
     rcases he with h | h
     ·simp at h
     ·rw [List.takeWhile_cons,show isDig b=false from h];rfl
   | succ k =>
     have hb:isDig b=true:=hd 0 (by omega)
     rw [List.takeWhile_cons,hb,if_pos rfl,List.length_cons,ih k (by simpa using hk) (fun j hj => by simpa using hd (j+1) (by omega)) (by simpa using he)]
theorem mem_tw (l:List UInt8):∀ b ∈ l.takeWhile isDig,isDig b=true:=by
 induction l with
 | nil => simp
 | cons c l ih =>
   intro b hb;rw [List.takeWhile_cons] at hb
   split at hb
   ·next h =>
    rcases List.mem_cons.1 hb with rfl | h1
    ·exact h
    ·exact ih b h1
   ·cases hb
theorem digN_take (l:List UInt8):digN l≤l.length ∧ ∀ b ∈ l.take (digN l),isDig b=true:=by
 unfold digN;have hp:l.takeWhile isDig <+: l:=List.takeWhile_prefix _;refine ⟨hp.length_le,fun b hb => ?_⟩
 rw [← List.prefix_iff_eq_take.1 hp] at hb;exact mem_tw l b hb
theorem step_append_own {P:Program} {w:World} {ops:Array Oper} {o:Oper} {a:Act} {K:Act → World → Prop} {Q:Exit → Act → World → Prop} {E:Prop} (hw:Region.wanted o (yielded ops a.tmps)=true) (s x:Operand) (t:TypeId)
 (ho:o.op=.call { callee:=.builtin .append,args:=#[s,x],argTypes:=#[t,t] })
 (base:Nat) (e:TypeId) (i:TypeInfo) (z:Value) (size bytes:Nat) (ht:P.underlying t=some (.slice e)) (hi:P.info? e=some i) (hz:i.zero=some z)
 (hsize:i.size=size) (hby:i.bytes=bytes) (hzs:z.cells.size=size) (hsz:0 < size)
 (v:Value) (n:Nat) (xs:List Value) (hs:a.eval s=v) (hown:w.ownsRow base e size v n xs)
 (ad:Addr) (m c:Nat) (news:List Value) (hx:a.eval x=.slice (some ad) m c) (hl:news.length=m * size) (hnews:∀ j u,news[j]? = some u → w.cell? (ad.add j)=some u) (h1:∀ u ∈ news,u.oneCell'=true)
 (h63:n+m≤maxLen) (hbytes:(n+m) * bytes≤140737488355328) (hbase:base≤w.heap.size)
 (h:∀ v' w',w'.ownsRow base e size v' (n+m) (xs++news) → w.grownBy w' v.ownBlock → (v'=.slice none 0 0 ↔ v=.slice none 0 0∧m=0) → K (a.put o.dst v') w') :
 if Region.wanted o (yielded ops a.tmps)=true then Oper.wp P o a w K Q else E:=by
 rw [if_pos hw];exact wp_append_own w s x t ho base e i z size bytes ht hi hz hsize hby hzs hsz v n xs hs hown ad m c news hx hl hnews h1 h63 hbytes hbase h
end Go.Proofs.YtdjedimjhogdoaaGreatDoor.Rec
end
section
namespace Go.Proofs.YtdjedimjhogdoaaGreatDoor.Head
open Go.ChangeShapes Go.WideShapes Go.ChangeAt Go.RowKit Base Byt Txt Hp Go.Proofs.YtdjedimjhogdoaaGreatDoor.Mp Go.Lib
set_option linter.unusedVariables false
set_option maxRecDepth 100000
theorem iter_off {w:World} {B R g:Nat} {f:Nat → Option Value} {todo:Nat → Bool} {bs:List UInt8} (h:IterF w B R f todo) (hr:RowB w g bs):g≠B∧g≠R:=by
 obtain ⟨es,clock,since,seen,c0,hb,hs,h1,h2,hR,_⟩:=h;unfold RowB at hr;refine ⟨fun e => ?_,fun e => ?_⟩
 ·rw [e,hb] at hr;cases hr
 ·rw [e,hR] at hr;cases hr
theorem iter_ne {w:World} {B R:Nat} {f:Nat → Option Value} {todo:Nat → Bool} (h:IterF w B R f todo) (e:B=R):False:=by
 obtain ⟨es,clock,since,seen,c0,hb,hs,h1,h2,hR,_⟩:=h;rw [← e,hb] at hR
 cases hR
def mixO (todo:Nat → Bool) (a b:Nat → List UInt8):Nat → List UInt8:=fun i => if todo i=true then a i else b i
theorem mix_fits {todo:Nat → Bool} {a b:Nat → List UInt8} (ha:Fits a) (hb:Fits b):Fits (mixO todo a b):=fun i => by
 unfold mixO
 split
 ·exact ha i
 ·exact hb i
theorem mix_done {todo:Nat → Bool} {a b:Nat → List UInt8} (ha:Fits a) (hb:Fits b) (h:∀ i,i < 11 → todo i=false):mixO todo a b=b:=
 fits_ext (mix_fits ha hb) hb fun i hi => by unfold mixO;rw [if_neg (by simp [h i hi])]
theorem mix_step {todo:Nat → Bool} {a b:Nat → List UInt8} (j:Nat):upd (mixO todo a b) j (b j)=mixO (fun z => todo z && z != j) a b:=by
 funext i
 by_cases hi:i=j
 ·subst hi
  rw [upd_same,mixO,if_neg (by simp)]
 ·rw [upd_other _ _ hi,mixO,mixO]
  have:(i != j)=true:=by simpa using hi
  simp [this]
theorem partF_val (r:Nat → Nat):∀ j v,partF r j=some v → v=partV r j:=fun j v h => by
 unfold partF at h
 split at h
 ·exact (Option.some.inj h).symm
 ·cases h
theorem partF_lt {r:Nat → Nat} {j:Nat} {v:Value} (h:partF r j=some v):j < 11:=by
 unfold partF at h
 split at h
 ·assumption
 ·cases h
theorem infoSz:(Tryz.prog.info? 5).map (·.size)=some 1:=by kernel_rfl
theorem putInto_all {old cs:List UInt8} (h:cs.length=old.length):putInto old cs=cs:=by
 simp [putInto,List.drop_eq_nil_of_le (show old.length≤cs.length by omega)]
set_option maxHeartbeats 2000000 in
theorem read_any (p:Option Addr) (c:Nat) (bs:List UInt8) (w:World) (hn:bs.length=512) (hc:512≤c) (hm:c≤maxLen) (h:BAt w p 512 bs) :
 Calls Tryz.prog 72 #[.slice p 512 c] w fun e w' => ∃ B r,e=.returned (.map (some B))∧PartsAt w' w.heap.size B r (readO bs)∧Kept noneB w w':=by
 unfold maxLen at hm;obtain ⟨b,o,rfl,hbw,_⟩:=h.cell (k:=0) (by omega)
 have H:=Lib.hid h;have HN:=Lib.hid hn;clear h hn
 go_enter Tryz.func72,Tryz.ntmps72
 go_wp2_with fail
 refine (blank_any w).mono ?_
 rintro e w1 ⟨B,r,rfl,hP,hk⟩;have HP:=Lib.hid hP;have HK:=Lib.hid hk;clear hP hk;obtain ⟨R,hR⟩:∃ R,R=w1.heap.size:=⟨_,rfl⟩
 go_wp2_with (first | (at_range;refine wpList_rangeF rfl _ rfl Tryz.underlying121 B HP.out.map (fun _ => true) (fun _ _ _ => rfl) rfl R hR ?_;intro w2 HI hk2 hs2) | go_in)
 have HP2:=Lib.hid (HP.out.kept0 hk2.out);have HK2:=Lib.hid (HK.out.trans hk2.out);have HRL:Hid (w.heap.size≤R):=Lib.hid (by rw [hR];exact HK.out.size)
 clear hk2 hs2 hR
 try go_frame
 go_loopw [9] (fun _ wr => ∃ todo,Hid (IterF wr B R (partF r) todo)∧Hid (PartsAt wr w.heap.size B r (mixO todo zeroO (readO bs)))∧Hid (Kept noneB w wr)) (fun _ wr => wr.rangeLeft B R)
 case atStart => exact ⟨fun _ => true,HI,by
  have e:mixO (fun _ => true) zeroO (readO bs)=zeroO:=by funext i;exact if_pos rfl
  rw [e];exact HP2,HK2⟩
 case round =>
  obtain ⟨todo,hI,hP,hK⟩:=hrel
  go_wp2_with (at_next;refine wpList_nextF rfl _ rfl B R todo (partV r) (partF_val r) rfl hI.out ?_ ?_)
  ·intro hd
   have hall:∀ i,i < 11 → todo i=false:=fun i hi => hd i (partV r i) (by unfold partF;rw [if_pos hi])
   have HD:=Lib.hid (mix_done (todo:=todo) zeroO_fits (readO_fits HN.out) hall);clear hd hall
   go_wp2
   go_ret
   refine ⟨B,r,rfl,?_,hK.out⟩;rw [← HD.out];exact hP.out
  ·intro j w3 v hj htj HI3 HLT HK3 hs3 hen
   have hj:=partF_lt hj;have hen':(Instr.entry (.pointer (some ⟨R,0,none⟩))).run Tryz.prog w3=.ok (.tuple #[.int .i64 (j:Int),.agg #[.int .i64 (atF j),.slice (some ⟨r j,0,none⟩) (wideF j) (wideF j)]]) w3:=hen;have hw:=wide_pos hj;have hin:=field_in hj;have HJ:=Lib.hid hj;clear hen
   go_wp2_with fail
   obtain ⟨w4,hw4⟩:∃ w4,w4=w3.alloc (.cells #[.int .i64 (atF j),.slice (some ⟨r j,0,none⟩) (wideF j) (wideF j)] 124):=⟨_,rfl⟩;have hk4:Kept noneB w3 w4:=by rw [hw4];exact (Kept.refl _ _).alloc _
   have h4b:w4.heap[wr.heap.size]? = some (.cells #[.int .i64 (atF j),.slice (some ⟨r j,0,none⟩) (wideF j) (wideF j)] 124 (0,0)):=by rw [hw4,← hs3];exact heap_alloc_new _ _
   rw [← hw4];have hc0:w4.drew.cell? ⟨wr.heap.size,0,none⟩=some (.int .i64 (atF j)):=cellsAt (w:=w4) h4b 0;have hc1:w4.drew.cell? ⟨wr.heap.size,1,none⟩=some (.slice (some ⟨r j,0,none⟩) (wideF j) (wideF j)):=cellsAt (w:=w4) h4b 1;have hkR:Kept (oneB R) wr w4.drew:=HK3.out.trans (hk4.drew.of_none _);have hoff:=iter_off hI.out (hP.out.row j hj);have hP4:=hP.out.kept hkR (fun e => iter_ne hI.out e) (fun i hi e => (iter_off hI.out (hP.out.row i hi)).2 e)
   have hK4:=hK.out.then hkR (fun i hi => Or.inl (by
    have h1:i=R:=hi;rw [h1]
    exact HRL.out))
   have hI4:=HI3.out.kept (hk4.drew) id id;have hfl:(fieldB bs j).length=wideF j:=fieldB_length HN.out hj;have hrow:=hP4.row j hj
   have hsrc:BAt w4.drew (some ⟨b,o+atF j,none⟩) (fieldB bs j).length (fieldB bs j):=by
    have h1:=(H.out.below (hK4.below (Nat.le_refl _) (fun k hk => hk.elim))).drop (k:=atF j) (c:=c) (by omega) (by omega) HN.out
    rw [if_neg (by omega)] at h1
    have h2:=h1.take (k:=wideF j) (by omega)
    rw [hfl]
    simpa [WideShapes.add_plain,fieldB] using h2
   have hrow2:((mixO todo zeroO (readO bs)) j).length=wideF j:=hP4.fit j;have HP4:=Lib.hid hP4;have HK4:=Lib.hid hK4;have HI4:=Lib.hid hI4;have HOFF:=Lib.hid hoff;have HROW:=Lib.hid hrow;have HSRC:=Lib.hid hsrc;have HFL:=Lib.hid hfl;have HRL2:=Lib.hid hrow2;have HBLK:=Lib.hid h4b;have hrl:Hid (w4.drew.rangeLeft B R < wr.rangeLeft B R):=Lib.hid (by rw [hI4.2];exact HLT.out)
   clear hkR hoff hP4 hK4 hI4 hfl hrow hsrc hrow2 h4b hk4 hw4 hen'
   go_region_held_law (fun w' => w'.cell? ⟨wr.heap.size,0,none⟩=some (.int .i64 (atF j))∧w'.cell? ⟨wr.heap.size,1,none⟩=some (.slice (some ⟨r j,0,none⟩) (wideF j) (wideF j))) (first | exact ⟨hc0,hc1⟩ | exact hc5)
    (first
     | (refine step_copyB rfl _ _ 22 22 rfl 5 Tryz.underlying22 infoSz (some ⟨r j,0,none⟩) (some ⟨b,o+atF j,none⟩) (wideF j) (wideF j) (512 - atF j) (c - atF j) rfl rfl (r j) 0 (mixO todo zeroO (readO bs) j) HROW.out (fieldB bs j)
         (by rw [HFL.out];exact (Nat.min_eq_right (by omega)).symm) (fun _ => rfl) HSRC.out (by rw [HFL.out,HRL2.out];omega) ?_
        intro w5 hr5 hk5 hs5;have hk5':=Lib.hid hk5
        have hc5:w5.cell? ⟨wr.heap.size,0,none⟩=some (.int .i64 (atF j))∧w5.cell? ⟨wr.heap.size,1,none⟩=some (.slice (some ⟨r j,0,none⟩) (wideF j) (wideF j)):=by
         have h5:w5.heap[wr.heap.size]? = _:=hk5.some_ (show w4.drew.heap[wr.heap.size]? = _ from HBLK.out) (fun e => by
          have h1:wr.heap.size=r j:=e;have h2:=(hP.out.row j HJ.out).lt
          omega)
         exact ⟨cellsAt h5 0,cellsAt h5 1⟩
        clear hk5))
   simp only [List.getElem_toArray,List.getElem_cons_succ,List.getElem_cons_zero]
   go_frame
   go_wp2
   go_roundw
   case rel =>
    have hk:=hk5'.out;have hlo:=HP4.out.lo.2 j HJ.out
    refine ⟨fun z => todo z && z != j,Lib.hid (HI4.out.1.kept hk (fun e => HOFF.out.1 (Eq.symm e)) (fun e => HOFF.out.2 (Eq.symm e))).1,Lib.hid ?_,Lib.hid (HK4.out.then hk (fun i hi => Or.inl (by
     have h1:i=r j:=hi;rw [h1]
     exact hlo)))⟩
    have hw:=HP4.out.wrote HJ.out hk (l:=fieldB bs j) HFL.out (by
     have h1:=hr5.out
     rwa [splice_zero,putInto_all (by rw [HFL.out,HRL2.out])] at h1)
    have e:=mix_step (todo:=todo) (a:=zeroO) (b:=readO bs) j;rw [show readO bs j=fieldB bs j by unfold readO;rw [if_pos HJ.out]] at e
    rw [e] at hw;exact hw
   case measure =>
    have hk:=hk5'.out;have h1:=(HI4.out.1.kept hk (fun e => HOFF.out.1 (Eq.symm e)) (fun e => HOFF.out.2 (Eq.symm e))).2
    have h2:=hrl.out;omega
end Go.Proofs.YtdjedimjhogdoaaGreatDoor.Head
end
section
namespace Go.Proofs.YtdjedimjhogdoaaGreatDoor.Head
open Go.ChangeShapes Go.WideShapes Go.ChangeAt Go.RowKit Base Byt Txt Hp Go.Proofs.YtdjedimjhogdoaaGreatDoor.Mp Fp Go.Proofs.YtdjedimjhogdoaaGreatDoor.Field Go.Lib
set_option linter.unusedVariables false
set_option maxRecDepth 100000
def numF (vals:Nat → Int):Nat → Option Value:=fun i => if 1≤i∧i≤5 then some (.int .i64 (vals i)) else none
theorem numF_val (vals:Nat → Int):∀ j v,numF vals j=some v → v=.int .i64 (vals j):=fun j v h => by
 unfold numF at h
 split at h
 ·exact (Option.some.inj h).symm
 ·cases h
theorem numF_lt {vals:Nat → Int} {j:Nat} {v:Value} (h:numF vals j=some v):1≤j∧j≤5:=by
 unfold numF at h
 split at h
 ·assumption
 ·cases h
theorem numF_at (vals:Nat → Int) {j:Nat} (h1:1≤j) (h2:j≤5):numF vals j=some (.int .i64 (vals j)):=by
 unfold numF;rw [if_pos ⟨h1,h2⟩]
set_option maxHeartbeats 2000000 in
theorem numbersOf_any (n l:ByteArray) (k m u g t z:Int) (gnu:Bool) (vals:Nat → Int) (h1:vals 1=m) (h2:vals 2=u) (h3:vals 3=g) (h4:vals 4=z) (h5:vals 5=t) (w:World) :
 Calls Tryz.prog 98 #[.agg #[.string n,.string l,.int .u8 k,.int .i64 m,.int .i64 u,.int .i64 g,.int .i64 t,.int .i64 z,.bool gnu]] w fun e w' => ∃ N,e=.returned (.map (some N))∧MapF w' N (numF vals)∧w.heap.size≤N∧Kept noneB w w':=by
 obtain ⟨O,hO⟩:∃ O,O=Obj.cells #[.string n,.string l,.int .u8 k,.int .i64 m,.int .i64 u,.int .i64 g,.int .i64 t,.int .i64 z,.bool gnu] 57:=⟨_,rfl⟩;have hm0:=mapF_made (w.alloc O);rw [World.size_alloc,hO] at hm0;have HM0:=Lib.hid hm0;have hb0:((w.alloc O).alloc (.map #[] 0)).heap[w.heap.size]? = some O:=((Kept.refl noneB (w.alloc O)).alloc (.map #[] 0)).some_ (heap_alloc_new w O) id;have hk0:Kept noneB w ((w.alloc O).alloc (.map #[] 0)):=((Kept.refl noneB w).alloc O).alloc _;rw [hO] at hb0 hk0;have HB0:=Lib.hid hb0;have HK0:=Lib.hid hk0;clear hm0 hb0 hk0 hO
 have off:¬ oneB (w.heap.size+1) w.heap.size:=fun e => by
  have:w.heap.size=w.heap.size+1:=e;omega
 have OFF:=Lib.hid off
 have lo:∀ i,oneB (w.heap.size+1) i → w.heap.size≤i ∨ noneB i:=fun i hi => Or.inl (by
  have:i=w.heap.size+1:=hi
  omega)
 have LO:=Lib.hid lo;clear off lo;have mm:=@run_makeMap Tryz.prog
 go_enter Tryz.func98,Tryz.ntmps98
 go_wp2_with (refine wpList_insertF rfl _ _ _ (Or.inr rfl) Tryz.underlying126 Tryz.underlying125 (w.heap.size+1) HM0.out rfl 1 rfl rfl (.int .i64 m) rfl ?_)
 intro w1 HM1 hk1 hs1;have HB1:=Lib.hid (hk1.out.some_ HB0.out OFF.out);have HK1:=Lib.hid (HK0.out.then hk1.out LO.out)
 have c4:=cellsAt HB1.out 4;clear hk1 hs1
 go_wp2_with (refine wpList_insertF rfl _ _ _ (Or.inr rfl) Tryz.underlying126 Tryz.underlying125 (w.heap.size+1) HM1.out rfl 2 rfl rfl (.int .i64 u) rfl ?_)
 intro w2 HM2 hk2 hs2;have HB2:=Lib.hid (hk2.out.some_ HB1.out OFF.out);have HK2:=Lib.hid (HK1.out.then hk2.out LO.out)
 have c5:=cellsAt HB2.out 5;clear hk2 hs2 c4
 go_wp2_with (refine wpList_insertF rfl _ _ _ (Or.inr rfl) Tryz.underlying126 Tryz.underlying125 (w.heap.size+1) HM2.out rfl 3 rfl rfl (.int .i64 g) rfl ?_)
 intro w3 HM3 hk3 hs3;have HB3:=Lib.hid (hk3.out.some_ HB2.out OFF.out);have HK3:=Lib.hid (HK2.out.then hk3.out LO.out)
 have c6:=cellsAt HB3.out 6;clear hk3 hs3 c5
 go_wp2_with (refine wpList_insertF rfl _ _ _ (Or.inr rfl) Tryz.underlying126 Tryz.underlying125 (w.heap.size+1) HM3.out rfl 5 rfl rfl (.int .i64 t) rfl ?_)
 intro w4 HM4 hk4 hs4;have HB4:=Lib.hid (hk4.out.some_ HB3.out OFF.out);have HK4:=Lib.hid (HK3.out.then hk4.out LO.out)
 have c7:=cellsAt HB4.out 7;clear hk4 hs4 c6
 go_wp2_with (refine wpList_insertF rfl _ _ _ (Or.inr rfl) Tryz.underlying126 Tryz.underlying125 (w.heap.size+1) HM4.out rfl 4 rfl rfl (.int .i64 z) rfl ?_)
 intro w5 HM5 hk5 hs5;have HK5:=Lib.hid (HK4.out.then hk5.out LO.out)
 clear hk5 hs5 c7
 go_wp2
 go_ret
 refine ⟨_,rfl,?_,by omega,HK5.out⟩
 have e:(numF vals)=fun y => if y=4 then some (Value.int .i64 z) else if y=5 then some (Value.int .i64 t) else if y=3 then some (Value.int .i64 g) else if y=2 then some (Value.int .i64 u) else if y=1 then some (Value.int .i64 m) else none:=by
  funext y
  unfold numF
  match y with
  | 0 => rfl
  | 1 => rw [h1];rfl
  | 2 => rw [h2];rfl
  | 3 => rw [h3];rfl
  | 4 => rw [h4];rfl
  | 5 => rw [h5];rfl
  | y+6 => rw [if_neg (by omega),if_neg (by omega),if_neg (by omega),if_neg (by omega),if_neg (by omega),if_neg (by omega)]
 rw [e];exact HM5.out
def numsO (own:Nat → List UInt8):Bool:=(List.range 5).all fun i => okI (parseF (own (i+1)))
theorem numsO_iff {own:Nat → List UInt8}:numsO own=true ↔ ∀ i,1≤i → i≤5 → okI (parseF (own i))=true:=by
 unfold numsO;rw [List.all_eq_true];constructor
 ·intro h i h1 h2
  have:=h (i - 1) (List.mem_range.2 (by omega))
  rwa [show i - 1+1=i by omega] at this
 ·intro h i hi
  have:=List.mem_range.1 hi;exact h (i+1) (by omega) (by omega)
def NumsPost (w:World) (own:Nat → List UInt8) (e:Ending) (w':World):Prop:=
 Kept noneB w w'∧((numsO own=true ∧ ∃ Q,e=.returned (.tuple #[.map (some Q),.bool true])∧MapF w' Q (numF fun i => valI (parseF (own i)))) ∨ (numsO own=false∧e=.returned (.tuple #[.map none,.bool false])))
set_option maxHeartbeats 2000000 in
theorem numbers_any (lo B:Nat) (r:Nat → Nat) (own:Nat → List UInt8) (w:World) (hP0:PartsAt w lo B r own) :
 Calls Tryz.prog 75 #[.map (some B)] w (NumsPost w own):=by
 have fl:=field_own;have HP0:=Lib.hid hP0;have hm0:=mapF_made w;have HM0:=Lib.hid hm0;have HK0:=Lib.hid ((Kept.refl noneB w).alloc (.map #[] 0));clear hP0 hm0;have mm:=@run_makeMap Tryz.prog
 go_enter Tryz.func75,Tryz.ntmps75
 go_wp2_with fail
 refine (numbersOf_any ⟨#[]⟩ ⟨#[]⟩ 0 0 0 0 0 0 false (fun _ => 0) rfl rfl rfl rfl rfl _).mono ?_
 rintro e w1 ⟨N,rfl,hN,hNl,hk1⟩;have HN:=Lib.hid hN;have HNL:Hid (N≠w.heap.size):=Lib.hid (by rw [World.size_alloc] at hNl;omega)
 have HQ1:=Lib.hid (HM0.out.kept hk1 id);have HP1:=Lib.hid ((HP0.out.kept0 HK0.out).kept0 hk1);have HK1:=Lib.hid (HK0.out.trans hk1);clear hN hNl hk1;obtain ⟨R,hR⟩:∃ R,R=w1.heap.size:=⟨_,rfl⟩
 go_wp2_with (first | (at_range;refine wpList_rangeF rfl _ rfl Tryz.underlying126 N HN.out (fun _ => true) (fun _ _ _ => rfl) rfl R hR ?_;intro w2 HI hk2 hs2) | go_in)
 have HK2:=Lib.hid (HK1.out.trans hk2.out);have HP2:=Lib.hid (HP1.out.kept0 hk2.out);have HQ2:=Lib.hid (HQ1.out.kept hk2.out id)
 have HRL:Hid (w.heap.size < R):=Lib.hid (by
  have:=HQ1.out.lt
  omega)
 clear hk2 hs2 hR
 try go_frame
 go_loopw [12] (fun _ wr => ∃ todo,Hid (IterF wr N R (numF fun _ => 0) todo)∧Hid (PartsAt wr lo B r own)∧Hid (MapF wr w.heap.size (fun i => if todo i=true then none else numF (fun i => valI (parseF (own i))) i))∧Hid (Kept noneB w wr)∧Hid (∀ i,1≤i → i≤5 → todo i=false → okI (parseF (own i))=true)) (fun _ wr => wr.rangeLeft N R)
 case atStart => exact ⟨fun _ => true,HI,HP2,by
  have e:(fun i => if true=true then none else numF (fun i => valI (parseF (own i))) i)=fun _ => (none:Option Value):=by funext i;rfl
  rw [e];exact HQ2,HK2,Lib.hid (fun i _ _ h => by cases h)⟩
 case round =>
  obtain ⟨todo,hI,hP,hQ,hK,hD⟩:=hrel
  go_wp2_with (at_next;refine wpList_nextF rfl _ rfl N R todo (fun _ => .int .i64 0) (numF_val _) rfl hI.out ?_ ?_)
  ·intro hd
   have hall:∀ i,1≤i → i≤5 → todo i=false:=fun i h1 h2 => hd i (.int .i64 0) (numF_at _ h1 h2)
   have HE:Hid (numsO own=true∧(fun i => if todo i=true then none else numF (fun i => valI (parseF (own i))) i)=numF fun i => valI (parseF (own i))):=Lib.hid ⟨numsO_iff.2 fun i h1 h2 => hD.out i h1 h2 (hall i h1 h2),by
    funext i
    split
    ·rename_i ht
     unfold numF;rw [if_neg];rintro ⟨h1,h2⟩;rw [hall i h1 h2] at ht
     cases ht
    ·rfl⟩
   clear hd hall
   go_wp2
   go_ret2
   refine ⟨hK.out,Or.inl ⟨HE.out.1,_,rfl,?_⟩⟩;have h1:=hQ.out;rw [HE.out.2] at h1;exact h1
  ·intro j w3 v hj htj HI3 HLT HK3 hs3 hen
   have hj:=numF_lt hj;obtain ⟨hj1,hj5⟩:=hj;have hj11:j < 11:=by omega
   have hP3:=hP.out.kept HK3.out (fun e => by
    have h1:=hP.out.map;have h2:=hI.out;obtain ⟨es,clock,hb,_⟩:=h1;obtain ⟨_,_,_,_,_,_,_,_,_,hr,_⟩:=h2;have e:B=R:=e;rw [← e,hb] at hr
    cases hr) (fun i hi e => (iter_off hI.out (hP.out.row i hi)).2 e)
   have hQ3:=hQ.out.kept HK3.out (fun e => by
    have e:w.heap.size=R:=e;have:=HRL.out
    omega)
   have hK3:=hK.out.then HK3.out (fun i hi => Or.inl (by
    have h1:i=R:=hi;have:=HRL.out
    omega))
   have lk:(Instr.lookup 121 (.map (some B)) (.int .i64 (j:Int)) false).run Tryz.prog w3=.ok (.agg #[.int .i64 (atF j),.slice (some ⟨r j,0,none⟩) (wideF j) (wideF j)]) w3:=
    hP3.map.look (P:=Tryz.prog) Tryz.underlying121 Tryz.underlying125 (x:=j) (v:=partV r j) (by unfold partF;rw [if_pos hj11])
   have hw:=wide_pos hj11;have HJ:=Lib.hid hj11;have HP3:=Lib.hid hP3;have HQ3:=Lib.hid hQ3;have HKK:=Lib.hid hK3;have HW:=Lib.hid hw;have HTJ:=Lib.hid htj;have HJ1:Hid (1≤j∧j≤5):=Lib.hid ⟨hj1,hj5⟩;clear hP3 hQ3 hK3 hw htj
   go_wp2_with fail
   refine (parse_any _ (wideF j) (wideF j) (own j) w3 (HP3.out.fit j) (Nat.le_refl _) (by have:=HW.out;unfold maxLen;omega) (HP3.out.bat HJ.out)).mono ?_
   rintro e w4 ⟨rfl,hb4⟩;have hk4:Kept noneB w3 w4:=Kept.of_below hb4 _;have HP4:=Lib.hid (HP3.out.kept0 hk4);have HQ4:=Lib.hid (HQ3.out.kept hk4 id);have HK4:=Lib.hid (HKK.out.trans hk4);have hI4:=HI3.out.kept hk4 id id;have HI4:=Lib.hid hI4.1;have HL4:Hid (w4.rangeLeft N R < wr.rangeLeft N R):=Lib.hid (by rw [hI4.2];exact HLT.out)
   clear hb4 hk4 hI4 lk
   by_cases hok:okI (parseF (own j))=true
   ·have HOK:=Lib.hid hok
    rw [hok];clear hok
    go_wp2_with (first | (at_mapUpdate;refine wpList_insertF rfl _ _ _ (Or.inl rfl) Tryz.underlying126 Tryz.underlying125 w.heap.size HQ4.out rfl j rfl (by rw [HTJ.out];rfl) (.int .i64 (valI (parseF (own j)))) rfl ?_;intro w5 HQ5 hk5 hs5) | go_in)
    try go_frame
    try go_wp2
    go_roundw
    case rel =>
     have hI5:=HI4.out.kept hk5.out HNL.out (fun e => by
      have e:R=w.heap.size:=e;have:=HRL.out
      omega)
     refine ⟨fun z => todo z && z != j,Lib.hid hI5.1,Lib.hid (HP4.out.kept hk5.out (fun e => ?_) (fun i hi e => ?_)),Lib.hid ?_,Lib.hid (HK4.out.then hk5.out (fun i hi => Or.inl (by
      have h1:i=w.heap.size:=hi
      omega))),Lib.hid (fun i h1 h2 ht => ?_)⟩
     ·have e:B=w.heap.size:=e
      have:=HP0.out.map.lt;omega
     ·have e:r i=w.heap.size:=e
      have:=(HP0.out.row i hi).lt;omega
     ·have h1:=HQ5.out
      have e:(fun y => if y=j then some (Value.int .i64 (valI (parseF (own j)))) else if todo y=true then none else numF (fun i => valI (parseF (own i))) y)=fun i => if (todo i && i != j)=true then none else numF (fun i => valI (parseF (own i))) i:=by
       funext y
       by_cases hy:y=j
       ·subst hy
        rw [if_pos rfl,if_neg (by simp),numF_at _ HJ1.out.1 HJ1.out.2]
       ·have h2:(y != j)=true:=by simpa using hy
        rw [if_neg hy,h2,Bool.and_true]
      rw [e] at h1;exact h1
     ·by_cases hij:i=j
      ·rw [hij];exact HOK.out
      ·have h3:(i != j)=true:=by simpa using hij
       have ht:(todo i && i != j)=false:=ht;rw [h3,Bool.and_true] at ht;exact hD.out i h1 h2 ht
    case measure =>
     have hI5:=HI4.out.kept hk5.out HNL.out (fun e => by
      have e:R=w.heap.size:=e;have:=HRL.out
      omega)
     have h1:=HL4.out;have h2:=hI5.2;omega
   ·have hok':okI (parseF (own j))=false:=by simpa using hok
    have HE:Hid (numsO own=false):=Lib.hid (by
     cases hc:numsO own with
     | false => rfl
     | true => exact absurd (numsO_iff.1 hc j HJ1.out.1 HJ1.out.2) hok)
    rw [hok'];clear hok hok'
    go_wp2
    go_ret2
    exact ⟨HK4.out,Or.inr ⟨HE.out,rfl⟩⟩
end Go.Proofs.YtdjedimjhogdoaaGreatDoor.Head
end
section
namespace Go.Proofs.YtdjedimjhogdoaaGreatDoor.Head
open Go.ChangeShapes Go.WideShapes Go.ChangeAt Go.RowKit Base Byt Txt Hp Go.Proofs.YtdjedimjhogdoaaGreatDoor.Mp Fp Go.Proofs.YtdjedimjhogdoaaGreatDoor.Field Go.Lib
set_option linter.unusedVariables false
set_option maxRecDepth 100000
theorem ret_head {fn:Func} (hf:fn.results=#[.cell 2 57,.tmp 3]) (tmps:Array Value) (w:World) (g:Nat) (v:Value) (ht:tmps.getD 2 undef=.pointer (some ⟨g,0,none⟩)) (hv:tmps.getD 3 undef=v)
 (a b:ByteArray) (k m u i t z:Int) (n:Bool) (h:w.heap[g]? = some (.cells #[.string a,.string b,.int .u8 k,.int .i64 m,.int .i64 u,.int .i64 i,.int .i64 t,.int .i64 z,.bool n] 57 (0,0))) :
 (results fn tmps).run Tryz.prog w=.ok (.tuple #[.agg #[.string a,.string b,.int .u8 k,.int .i64 m,.int .i64 u,.int .i64 i,.int .i64 t,.int .i64 z,.bool n],v]) w:=by
 rw [results_cell_tmp hf,ht,hv];have hl:=load_head w g a b k m u i t z n h;simp [asAddr,hl,Result.andThen]
theorem lookB {w:World} {lo B:Nat} {r:Nat → Nat} {own:Nat → List UInt8} (h:PartsAt w lo B r own) (i:Nat) (hi:i < 11) :
 (Instr.lookup 121 (.map (some B)) (.int .i64 (i:Int)) false).run Tryz.prog w=.ok (.agg #[.int .i64 (atF i),.slice (some ⟨r i,0,none⟩) (wideF i) (wideF i)]) w:=
 h.map.look (P:=Tryz.prog) Tryz.underlying121 Tryz.underlying125 (x:=i) (v:=partV r i) (by unfold partF;rw [if_pos hi])
theorem numsO_read (bs:List UInt8):numsO (readO bs)=numsOkB bs:=by
 have e:∀ i,1≤i → i≤5 → readO bs i=fieldB bs i:=fun i h1 h2 => if_pos (by omega)
 cases h:numsOkB bs with
 | true =>
   refine numsO_iff.2 fun i h1 h2 => ?_
   rw [e i h1 h2];exact numsOkB_iff.1 h i h1 h2
 | false =>
   cases h2:numsO (readO bs) with
   | false => rfl
   | true =>
     have h5:numsOkB bs=true:=numsOkB_iff.2 fun i h3 h4 => by
      rw [← e i h3 h4];exact numsO_iff.1 h2 i h3 h4
     rw [h] at h5
     cases h5
theorem readO_at (bs:List UInt8) (i:Nat) (hi:i < 11):readO bs i=fieldB bs i:=if_pos hi
def zeroCs:Array Value:=#[.string ⟨#[]⟩,.string ⟨#[]⟩,.int .u8 0,.int .i64 0,.int .i64 0,.int .i64 0,.int .i64 0,.int .i64 0,.bool false]
theorem stored9 {w:World} {g:Nat} {e:TypeId} (h:w.heap[g]? = some (.cells zeroCs e (0,0))) (v0 v1 v2 v3 v4 v5 v6 v7 v8:Value) :
 (((((((((w.setCell ⟨g,0,none⟩ v0).setCell ⟨g,1,none⟩ v1).setCell ⟨g,2,none⟩ v2).setCell ⟨g,3,none⟩ v3).setCell ⟨g,4,none⟩ v4).setCell ⟨g,5,none⟩ v5).setCell ⟨g,6,none⟩ v6).setCell ⟨g,7,none⟩ v7).setCell ⟨g,8,none⟩ v8).heap[g]? =
   some (.cells #[v0,v1,v2,v3,v4,v5,v6,v7,v8] e (0,0)):=by
 have st:∀ {w:World} {cs:Array Value} (i:Nat) (v:Value),w.heap[g]? = some (.cells cs e (0,0)) → (w.setCell ⟨g,i,none⟩ v).heap[g]? = some (.cells (cs.setIfInBounds i v) e (0,0)):=by
  intro w cs i v h;rw [setCell_eq_setRow w g i _ _ _ _ h];exact setRow_heap w g _ _ _ _ h
 have h0:(w.setCell ⟨g,0,none⟩ v0).heap[g]? = some (.cells #[v0,.string ⟨#[]⟩,.int .u8 0,.int .i64 0,.int .i64 0,.int .i64 0,.int .i64 0,.int .i64 0,.bool false] e (0,0)):=st 0 v0 h;have h1:((w.setCell ⟨g,0,none⟩ v0).setCell ⟨g,1,none⟩ v1).heap[g]? = some (.cells #[v0,v1,.int .u8 0,.int .i64 0,.int .i64 0,.int .i64 0,.int .i64 0,.int .i64 0,.bool false] e (0,0)):=st 1 v1 h0;have h2:(((w.setCell ⟨g,0,none⟩ v0).setCell ⟨g,1,none⟩ v1).setCell ⟨g,2,none⟩ v2).heap[g]? = some (.cells #[v0,v1,v2,.int .i64 0,.int .i64 0,.int .i64 0,.int .i64 0,.int .i64 0,.bool false] e (0,0)):=st 2 v2 h1
 have h3:((((w.setCell ⟨g,0,none⟩ v0).setCell ⟨g,1,none⟩ v1).setCell ⟨g,2,none⟩ v2).setCell ⟨g,3,none⟩ v3).heap[g]? = some (.cells #[v0,v1,v2,v3,.int .i64 0,.int .i64 0,.int .i64 0,.int .i64 0,.bool false] e (0,0)):=st 3 v3 h2;have h4:(((((w.setCell ⟨g,0,none⟩ v0).setCell ⟨g,1,none⟩ v1).setCell ⟨g,2,none⟩ v2).setCell ⟨g,3,none⟩ v3).setCell ⟨g,4,none⟩ v4).heap[g]? = some (.cells #[v0,v1,v2,v3,v4,.int .i64 0,.int .i64 0,.int .i64 0,.bool false] e (0,0)):=st 4 v4 h3;have h5:((((((w.setCell ⟨g,0,none⟩ v0).setCell ⟨g,1,none⟩ v1).setCell ⟨g,2,none⟩ v2).setCell ⟨g,3,none⟩ v3).setCell ⟨g,4,none⟩ v4).setCell ⟨g,5,none⟩ v5).heap[g]? = some (.cells #[v0,v1,v2,v3,v4,v5,.int .i64 0,.int .i64 0,.bool false] e (0,0)):=st 5 v5 h4
 have h6:(((((((w.setCell ⟨g,0,none⟩ v0).setCell ⟨g,1,none⟩ v1).setCell ⟨g,2,none⟩ v2).setCell ⟨g,3,none⟩ v3).setCell ⟨g,4,none⟩ v4).setCell ⟨g,5,none⟩ v5).setCell ⟨g,6,none⟩ v6).heap[g]? = some (.cells #[v0,v1,v2,v3,v4,v5,v6,.int .i64 0,.bool false] e (0,0)):=st 6 v6 h5;have h7:((((((((w.setCell ⟨g,0,none⟩ v0).setCell ⟨g,1,none⟩ v1).setCell ⟨g,2,none⟩ v2).setCell ⟨g,3,none⟩ v3).setCell ⟨g,4,none⟩ v4).setCell ⟨g,5,none⟩ v5).setCell ⟨g,6,none⟩ v6).setCell ⟨g,7,none⟩ v7).heap[g]? = some (.cells #[v0,v1,v2,v3,v4,v5,v6,v7,.bool false] e (0,0)):=st 7 v7 h6
 have h8:(((((((((w.setCell ⟨g,0,none⟩ v0).setCell ⟨g,1,none⟩ v1).setCell ⟨g,2,none⟩ v2).setCell ⟨g,3,none⟩ v3).setCell ⟨g,4,none⟩ v4).setCell ⟨g,5,none⟩ v5).setCell ⟨g,6,none⟩ v6).setCell ⟨g,7,none⟩ v7).setCell ⟨g,8,none⟩ v8).heap[g]? = some (.cells #[v0,v1,v2,v3,v4,v5,v6,v7,v8] e (0,0)):=st 8 v8 h7;exact h8
theorem kept9 {w0 w:World} {g:Nat} (h:Kept (oneB g) w0 w) (v0 v1 v2 v3 v4 v5 v6 v7 v8:Value) :
 Kept (oneB g) w0 (((((((((w.setCell ⟨g,0,none⟩ v0).setCell ⟨g,1,none⟩ v1).setCell ⟨g,2,none⟩ v2).setCell ⟨g,3,none⟩ v3).setCell ⟨g,4,none⟩ v4).setCell ⟨g,5,none⟩ v5).setCell ⟨g,6,none⟩ v6).setCell ⟨g,7,none⟩ v7).setCell ⟨g,8,none⟩ v8):=by
 have st:∀ {w:World} (i:Nat) (v:Value),Kept (oneB g) w0 w → Kept (oneB g) w0 (w.setCell ⟨g,i,none⟩ v):=fun i v h => h.setCell (a:=⟨g,i,none⟩) (Or.inr (show oneB g g from rfl)) v
 exact st 8 v8 (st 7 v7 (st 6 v6 (st 5 v5 (st 4 v4 (st 3 v3 (st 2 v2 (st 1 v1 (st 0 v0 h))))))))
theorem ustar_str:str ustarB=⟨#[117,115,116,97,114,0,48,48]⟩:=rfl
theorem gnu_str:str gnuB=⟨#[117,115,116,97,114,32,32,0]⟩:=rfl
end Go.Proofs.YtdjedimjhogdoaaGreatDoor.Head
end
section
namespace Go.Proofs.YtdjedimjhogdoaaGreatDoor.Head
open Go.ChangeShapes Go.WideShapes Go.ChangeAt Go.RowKit Base Byt Txt Hp Go.Proofs.YtdjedimjhogdoaaGreatDoor.Mp Go.Lib
set_option linter.unusedVariables false
set_option maxRecDepth 100000
noncomputable def parseOps:Array Oper:=regionAt Tryz.f52 13
def pV (B Q:Nat) (mg nm ln:ByteArray) (gnu:Bool) (kd v1 v2 v3 v4 v5:Int):Nat → Value
 | 0 => .map (some B) | 1 => .string mg | 2 => .bool gnu | 3 => .string nm | 4 => .map (some B) | 5 => .string ln | 6 => .map (some B) | 7 => .int .u8 kd
 | 8 => .map (some Q) | 9 => .int .i64 v1 | 10 => .map (some Q) | 11 => .int .i64 v2 | 12 => .map (some Q) | 13 => .int .i64 v3 | 14 => .map (some Q) | 15 => .int .i64 v5
 | 16 => .agg #[.int .i64 v1,.int .i64 v2,.int .i64 v3,.int .i64 v5] | 17 => .map (some Q) | 18 => .int .i64 v4 | 19 => .string mg | 20 => .bool gnu
 | 21 => .agg #[.string nm,.string ln,.int .u8 kd,.int .i64 v1,.int .i64 v2,.int .i64 v3,.int .i64 v5,.int .i64 v4,.bool gnu] | 23 => .int .i64 0 | _ => undef
theorem parse_size:parseOps.size=24:=rfl
theorem parse_apart:apartB parseOps 73=true:=by kernel_rfl
theorem pop0:∃ o,parseOps[0]? = some o∧o.op=.move (.tmp 4)∧o.dst=some 51:=⟨_,rfl,rfl,rfl⟩
theorem pop1:∃ o,parseOps[1]? = some o∧o.op=.move (.tmp 7)∧o.dst=some 52:=⟨_,rfl,rfl,rfl⟩
theorem pop2:∃ o,parseOps[2]? = some o∧o.op=.binOp .eql 9 (.tmp 52) (.const (.string ⟨#[117,115,116,97,114,32,32,0]⟩)) 9∧o.dst=some 53:=⟨_,rfl,rfl,rfl⟩
theorem pop3:∃ o,parseOps[3]? = some o∧o.op=.call { callee:=.value (.func 76),args:=#[.tmp 51,.tmp 53],argTypes:=#[121,4] }∧o.dst=some 54:=⟨_,rfl,rfl,rfl⟩
theorem pop4:∃ o,parseOps[4]? = some o∧o.op=.move (.tmp 4)∧o.dst=some 55:=⟨_,rfl,rfl,rfl⟩
theorem pop5:∃ o,parseOps[5]? = some o∧o.op=.call { callee:=.value (.func 77),args:=#[.tmp 55,.const (.int .i64 8)],argTypes:=#[121,125] }∧o.dst=some 56:=⟨_,rfl,rfl,rfl⟩
theorem pop6:∃ o,parseOps[6]? = some o∧o.op=.move (.tmp 4)∧o.dst=some 57:=⟨_,rfl,rfl,rfl⟩
theorem pop7:∃ o,parseOps[7]? = some o∧o.op=.call { callee:=.value (.func 78),args:=#[.tmp 57],argTypes:=#[121] }∧o.dst=some 58:=⟨_,rfl,rfl,rfl⟩
theorem pop8:∃ o,parseOps[8]? = some o∧o.op=.move (.tmp 8)∧o.dst=some 59:=⟨_,rfl,rfl,rfl⟩
theorem pop9:∃ o,parseOps[9]? = some o∧o.op=.lookup 126 (.tmp 59) (.const (.int .i64 1)) false∧o.dst=some 60:=⟨_,rfl,rfl,rfl⟩
theorem pop10:∃ o,parseOps[10]? = some o∧o.op=.move (.tmp 8)∧o.dst=some 61:=⟨_,rfl,rfl,rfl⟩
theorem pop11:∃ o,parseOps[11]? = some o∧o.op=.lookup 126 (.tmp 61) (.const (.int .i64 2)) false∧o.dst=some 62:=⟨_,rfl,rfl,rfl⟩
theorem pop12:∃ o,parseOps[12]? = some o∧o.op=.move (.tmp 8)∧o.dst=some 63:=⟨_,rfl,rfl,rfl⟩
theorem pop13:∃ o,parseOps[13]? = some o∧o.op=.lookup 126 (.tmp 63) (.const (.int .i64 3)) false∧o.dst=some 64:=⟨_,rfl,rfl,rfl⟩
theorem pop14:∃ o,parseOps[14]? = some o∧o.op=.move (.tmp 8)∧o.dst=some 65:=⟨_,rfl,rfl,rfl⟩
theorem pop15:∃ o,parseOps[15]? = some o∧o.op=.lookup 126 (.tmp 65) (.const (.int .i64 5)) false∧o.dst=some 66:=⟨_,rfl,rfl,rfl⟩
theorem pop16:∃ o,parseOps[16]? = some o∧o.op=.build 35 #[(0,.tmp 60),(1,.tmp 62),(2,.tmp 64),(3,.tmp 66)]∧o.dst=some 67:=⟨_,rfl,rfl,rfl⟩
theorem pop17:∃ o,parseOps[17]? = some o∧o.op=.move (.tmp 8)∧o.dst=some 68:=⟨_,rfl,rfl,rfl⟩
theorem pop18:∃ o,parseOps[18]? = some o∧o.op=.lookup 126 (.tmp 68) (.const (.int .i64 4)) false∧o.dst=some 69:=⟨_,rfl,rfl,rfl⟩
theorem pop19:∃ o,parseOps[19]? = some o∧o.op=.move (.tmp 7)∧o.dst=some 70:=⟨_,rfl,rfl,rfl⟩
theorem pop20:∃ o,parseOps[20]? = some o∧o.op=.binOp .eql 9 (.tmp 70) (.const (.string ⟨#[117,115,116,97,114,32,32,0]⟩)) 9∧o.dst=some 71:=⟨_,rfl,rfl,rfl⟩
theorem pop21:∃ o,parseOps[21]? = some o∧o.op=.build 57 #[(0,.tmp 54),(1,.tmp 56),(2,.tmp 58),(3,.tmp 67),(4,.tmp 69),(5,.tmp 71)]∧o.dst=some 72:=⟨_,rfl,rfl,rfl⟩
theorem pop22:∃ o,parseOps[22]? = some o∧o.op=.store 57 (.tmp 2) (.tmp 72)∧o.dst=none:=⟨_,rfl,rfl,rfl⟩
theorem pop23:∃ o,parseOps[23]? = some o∧o.op=.assign (.const (.int .i64 0))∧o.dst=some 3:=⟨_,rfl,rfl,rfl⟩
theorem build_meta (w:World) (a b c d:Int):(Instr.build 35 #[(0,.int .i64 a),(1,.int .i64 b),(2,.int .i64 c),(3,.int .i64 d)]).run Tryz.prog w=.ok (.agg #[.int .i64 a,.int .i64 b,.int .i64 c,.int .i64 d]) w:=by kernel_rfl
theorem build_head (w:World) (n l:ByteArray) (k a b c d s:Int) (g:Bool):(Instr.build 57 #[(0,.string n),(1,.string l),(2,.int .u8 k),(3,.agg #[.int .i64 a,.int .i64 b,.int .i64 c,.int .i64 d]),(4,.int .i64 s),(5,.bool g)]).run Tryz.prog w=.ok (.agg #[.string n,.string l,.int .u8 k,.int .i64 a,.int .i64 b,.int .i64 c,.int .i64 d,.int .i64 s,.bool g]) w:=by kernel_rfl
theorem wp_store9 {o:Oper} {a:Act} {w:World} {K:Act → World → Prop} {Q:Exit → Act → World → Prop} (p x:Operand) (ho:o.op=.store 57 p x) (g:Nat) (hp:a.eval p=.pointer (some ⟨g,0,none⟩)) (n l:ByteArray) (k m u i t s:Int) (b:Bool)
 (hx:a.eval x=.agg #[.string n,.string l,.int .u8 k,.int .i64 m,.int .i64 u,.int .i64 i,.int .i64 t,.int .i64 s,.bool b]) (hz:w.heap[g]? = some (.cells zeroCs 57 (0,0)))
 (h:∀ w',w'.heap[g]? = some (.cells #[.string n,.string l,.int .u8 k,.int .i64 m,.int .i64 u,.int .i64 i,.int .i64 t,.int .i64 s,.bool b] 57 (0,0)) → Kept (oneB g) w w' → K (a.put o.dst undef) w'):Oper.wp Tryz.prog o a w K Q:=by
 have c0:=cellsAt hz;have f0:=cellsFrozen hz;have h9:=stored9 hz;have k9:=kept9 (Kept.refl (oneB g) w);unfold zeroCs at c0;clear hz
 have hr:(execOp a.eval o).run Tryz.prog w=.ok .skip (((((((((w.setCell ⟨g,0,none⟩ (.string n)).setCell ⟨g,1,none⟩ (.string l)).setCell ⟨g,2,none⟩ (.int .u8 k)).setCell ⟨g,3,none⟩ (.int .i64 m)).setCell ⟨g,4,none⟩ (.int .i64 u)).setCell ⟨g,5,none⟩ (.int .i64 i)).setCell ⟨g,6,none⟩ (.int .i64 t)).setCell ⟨g,7,none⟩ (.int .i64 s)).setCell ⟨g,8,none⟩ (.bool b)):=by
  generalize a.eval=ev at hp hx;simp [go_sem,execOp,ho,hp,hx,c0,f0,Result.andThen]
 unfold Oper.wp;rw [hr,Oper.upon_skip];exact h _ (h9 _ _ _ _ _ _ _ _ _) (k9 _ _ _ _ _ _ _ _ _)
set_option maxHeartbeats 1000000 in
theorem parse_region {Q':Exit → Act → World → Prop} {a0:Act} {w3:World} (g lo B Q:Nat) (r:Nat → Nat) (own:Nat → List UInt8) (mg:ByteArray) (gnu:Bool) (v1 v2 v3 v4 v5:Int)
 (hsz:73≤a0.tmps.size) (h2:a0.eval (.tmp 2)=.pointer (some ⟨g,0,none⟩)) (h4:a0.eval (.tmp 4)=.map (some B)) (h7:a0.eval (.tmp 7)=.string mg) (h8:a0.eval (.tmp 8)=.map (some Q))
 (hP:PartsAt w3 lo B r own) (hBg:B≠g) (hrg:∀ i,i < 11 → r i≠g) (hz:w3.heap[g]? = some (.cells zeroCs 57 (0,0)))
 (hlk:∀ w',Kept (oneB g) w3 w' → (Instr.lookup 126 (.map (some Q)) (.int .i64 1) false).run Tryz.prog w'=.ok (.int .i64 v1) w'∧(Instr.lookup 126 (.map (some Q)) (.int .i64 2) false).run Tryz.prog w'=.ok (.int .i64 v2) w' ∧
  (Instr.lookup 126 (.map (some Q)) (.int .i64 3) false).run Tryz.prog w'=.ok (.int .i64 v3) w'∧(Instr.lookup 126 (.map (some Q)) (.int .i64 4) false).run Tryz.prog w'=.ok (.int .i64 v4) w'∧(Instr.lookup 126 (.map (some Q)) (.int .i64 5) false).run Tryz.prog w'=.ok (.int .i64 v5) w')
 (hgn:(mg.toList == [117,115,116,97,114,32,32,0])=gnu)
 (hQ:∀ a' w',a'.defers=a0.defers → a'.eval (.tmp 2)=.pointer (some ⟨g,0,none⟩) → a'.eval (.tmp 3)=.int .i64 0 →
  w'.heap[g]? = some (.cells #[.string (str (nameF (untilB (own 10)) (untilB (own 0)) gnu)),.string (str (untilB (own 8))),.int .u8 ((kindO (own 7)).toNat:Int),.int .i64 v1,.int .i64 v2,.int .i64 v3,.int .i64 v5,.int .i64 v4,.bool gnu] 57 (0,0)) → Kept (oneB g) w3 w' → Q' .normal a' w') :
 wpAny Tryz.prog .any parseOps Q' parseOps.size (Array.replicate parseOps.size false) a0 w3.drew:=by
 have no:∀ j,(Array.replicate parseOps.size false).getD j false=false:=fun j => by
  rw [Array.getD_eq_getD_getElem?,Array.getElem?_replicate]
  split<;>rfl
 obtain ⟨nm,hnm⟩:∃ nm,nm=str (nameF (untilB (own 10)) (untilB (own 0)) gnu):=⟨_,rfl⟩;obtain ⟨ln,hln⟩:∃ ln,ln=str (untilB (own 8)):=⟨_,rfl⟩;obtain ⟨kd,hkd⟩:∃ kd:Int,kd=((kindO (own 7)).toNat:Int):=⟨_,rfl⟩;rw [← hnm,← hln,← hkd] at hQ;obtain ⟨C,hC⟩:∃ C:Array Value,C=#[.string nm,.string ln,.int .u8 kd,.int .i64 v1,.int .i64 v2,.int .i64 v3,.int .i64 v5,.int .i64 v4,.bool gnu]:=⟨_,rfl⟩;rw [← hC] at hQ;refine wpAny_vals (pV B Q mg nm ln gnu kd v1 v2 v3 v4 v5) a0 (fun listed w => Kept (oneB g) w3 w∧w.heap[g]? = some (.cells (if listed.getD 22 false=true then C else zeroCs) 57 (0,0))) 73 parse_apart hsz ?_ ?_ ⟨(Kept.refl _ w3).drew,by rw [no];exact hz⟩
 ·intro listed a w j o h ho hun hdep
  have hlt:=lt_of_unlisted hun;obtain ⟨hk,hh⟩:=h.wd
  have keep:∀ w',j≠22 → Kept noneB w w' → Kept (oneB g) w3 w'∧w'.heap[g]? = some (.cells (if (listed.setIfInBounds j true).getD 22 false=true then C else zeroCs) 57 (0,0)):=fun w' hj hk' => by
   rw [listed_get hlt,if_neg (Ne.symm hj)];exact ⟨hk.trans (hk'.of_none _),hk'.some_ hh id⟩
  have hj24:j < 24:=by
   have:=(Array.getElem?_eq_some_iff.1 ho).1
   rwa [parse_size] at this
  have hPw:PartsAt w lo B r own:=hP.kept hk hBg hrg;obtain ⟨l1,l2,l3,l4,l5⟩:=hlk w hk;have same:∀ {j':Nat} {o':Oper},parseOps[j']? = some o' → j=j' → o'=o:=fun {j' o'} h' e => by subst e;exact Option.some.inj (h'.symm.trans ho)
  rcases (show j=0 ∨ j=1 ∨ j=2 ∨ j=3 ∨ j=4 ∨ j=5 ∨ j=6 ∨ j=7 ∨ j=8 ∨ j=9 ∨ j=10 ∨ j=11 ∨ j=12 ∨ j=13 ∨ j=14 ∨ j=15 ∨ j=16 ∨ j=17 ∨ j=18 ∨ j=19 ∨ j=20 ∨ j=21 ∨ j=22 ∨ j=23 by omega) with rfl | rfl | rfl | rfl | rfl | rfl | rfl | rfl | rfl | rfl | rfl | rfl | rfl | rfl | rfl | rfl | rfl | rfl | rfl | rfl | rfl | rfl | rfl | rfl
  ·obtain ⟨o',ho',hop,hdst⟩:=pop0
   obtain rfl:=same ho' rfl;exact wp_move _ _ (Or.inl hop) ((h.old (t:=4) (by kernel_rfl)).trans h4) ⟨rfl,keep w (by decide) (Kept.refl _ _)⟩
  ·obtain ⟨o',ho',hop,hdst⟩:=pop1
   obtain rfl:=same ho' rfl;exact wp_move _ _ (Or.inl hop) ((h.old (t:=7) (by kernel_rfl)).trans h7) ⟨rfl,keep w (by decide) (Kept.refl _ _)⟩
  ·obtain ⟨o',ho',hop,hdst⟩:=pop2
   obtain rfl:=same ho' rfl;have e:=(h.get ho hdep (i:=1) (d:=52) (by kernel_rfl) rfl)
   refine wp_run (.bool gnu) ?_ ⟨rfl,keep w (by decide) (Kept.refl _ _)⟩
   have e:a.eval (.tmp 52)=.string mg:=e;have ec:a.eval (.const (.string ⟨#[117,115,116,97,114,32,32,0]⟩))=.string ⟨#[117,115,116,97,114,32,32,0]⟩:=rfl;generalize a.eval=ev at e ec ⊢;simp [go_sem,execOp,hop,e,ec,hgn]
  ·obtain ⟨o',ho',hop,hdst⟩:=pop3
   obtain rfl:=same ho' rfl;have e0:a.eval (.tmp 51)=.map (some B):=(h.get ho hdep (i:=0) (d:=51) (by kernel_rfl) rfl)
   have e1:a.eval (.tmp 53)=.bool gnu:=(h.get ho hdep (i:=2) (d:=53) (by kernel_rfl) rfl)
   refine wp_call _ _ _ hop #[.map (some B),.bool gnu] (by simp [e0,e1]) (enters_of Tryz.func76 (by kernel_rfl) rfl) (.string nm) (fun w' => Kept noneB w w') ?_ (fun w' hk' => ⟨rfl,keep w' (by decide) hk'⟩)
   rw [hnm];exact name_any lo B r own gnu w hPw
  ·obtain ⟨o',ho',hop,hdst⟩:=pop4
   obtain rfl:=same ho' rfl;exact wp_move _ _ (Or.inl hop) ((h.old (t:=4) (by kernel_rfl)).trans h4) ⟨rfl,keep w (by decide) (Kept.refl _ _)⟩
  ·obtain ⟨o',ho',hop,hdst⟩:=pop5
   obtain rfl:=same ho' rfl;have e0:a.eval (.tmp 55)=.map (some B):=(h.get ho hdep (i:=4) (d:=55) (by kernel_rfl) rfl)
   refine wp_call _ _ _ hop #[.map (some B),.int .i64 8] (by simp [e0,evalC]) (enters_of Tryz.func77 (by kernel_rfl) rfl) (.string ln) (fun w' => Kept noneB w w') ?_ (fun w' hk' => ⟨rfl,keep w' (by decide) hk'⟩)
   rw [hln];exact text_any lo B r own 8 w (by omega) hPw
  ·obtain ⟨o',ho',hop,hdst⟩:=pop6
   obtain rfl:=same ho' rfl;exact wp_move _ _ (Or.inl hop) ((h.old (t:=4) (by kernel_rfl)).trans h4) ⟨rfl,keep w (by decide) (Kept.refl _ _)⟩
  ·obtain ⟨o',ho',hop,hdst⟩:=pop7
   obtain rfl:=same ho' rfl;have e0:a.eval (.tmp 57)=.map (some B):=(h.get ho hdep (i:=6) (d:=57) (by kernel_rfl) rfl)
   refine wp_call _ _ _ hop #[.map (some B)] (by simp [e0]) (enters_of Tryz.func78 (by kernel_rfl) rfl) (.int .u8 kd) (fun w' => Kept noneB w w') ?_ (fun w' hk' => ⟨rfl,keep w' (by decide) hk'⟩)
   rw [hkd];refine (kind_any lo B r own w hPw).mono ?_
   rintro e w' ⟨rfl,rfl⟩;exact ⟨rfl,Kept.refl _ _⟩
  ·obtain ⟨o',ho',hop,hdst⟩:=pop8
   obtain rfl:=same ho' rfl;exact wp_move _ _ (Or.inl hop) ((h.old (t:=8) (by kernel_rfl)).trans h8) ⟨rfl,keep w (by decide) (Kept.refl _ _)⟩
  ·obtain ⟨o',ho',hop,hdst⟩:=pop9
   obtain rfl:=same ho' rfl;exact wp_look _ _ _ hop _ _ _ (h.get ho hdep (i:=8) (d:=59) (by kernel_rfl) rfl) rfl l1 ⟨rfl,keep w (by decide) (Kept.refl _ _)⟩
  ·obtain ⟨o',ho',hop,hdst⟩:=pop10
   obtain rfl:=same ho' rfl;exact wp_move _ _ (Or.inl hop) ((h.old (t:=8) (by kernel_rfl)).trans h8) ⟨rfl,keep w (by decide) (Kept.refl _ _)⟩
  ·obtain ⟨o',ho',hop,hdst⟩:=pop11
   obtain rfl:=same ho' rfl;exact wp_look _ _ _ hop _ _ _ (h.get ho hdep (i:=10) (d:=61) (by kernel_rfl) rfl) rfl l2 ⟨rfl,keep w (by decide) (Kept.refl _ _)⟩
  ·obtain ⟨o',ho',hop,hdst⟩:=pop12
   obtain rfl:=same ho' rfl;exact wp_move _ _ (Or.inl hop) ((h.old (t:=8) (by kernel_rfl)).trans h8) ⟨rfl,keep w (by decide) (Kept.refl _ _)⟩
  ·obtain ⟨o',ho',hop,hdst⟩:=pop13
   obtain rfl:=same ho' rfl;exact wp_look _ _ _ hop _ _ _ (h.get ho hdep (i:=12) (d:=63) (by kernel_rfl) rfl) rfl l3 ⟨rfl,keep w (by decide) (Kept.refl _ _)⟩
  ·obtain ⟨o',ho',hop,hdst⟩:=pop14
   obtain rfl:=same ho' rfl;exact wp_move _ _ (Or.inl hop) ((h.old (t:=8) (by kernel_rfl)).trans h8) ⟨rfl,keep w (by decide) (Kept.refl _ _)⟩
  ·obtain ⟨o',ho',hop,hdst⟩:=pop15
   obtain rfl:=same ho' rfl;exact wp_look _ _ _ hop _ _ _ (h.get ho hdep (i:=14) (d:=65) (by kernel_rfl) rfl) rfl l5 ⟨rfl,keep w (by decide) (Kept.refl _ _)⟩
  ·obtain ⟨o',ho',hop,hdst⟩:=pop16
   obtain rfl:=same ho' rfl;have e0:=(h.get ho hdep (i:=9) (d:=60) (by kernel_rfl) rfl)
   have e1:=(h.get ho hdep (i:=11) (d:=62) (by kernel_rfl) rfl)
   have e2:=(h.get ho hdep (i:=13) (d:=64) (by kernel_rfl) rfl)
   have e3:=(h.get ho hdep (i:=15) (d:=66) (by kernel_rfl) rfl)
   refine wp_run _ ?_ ⟨rfl,keep w (by decide) (Kept.refl _ _)⟩
   have b:=build_meta w v1 v2 v3 v5;have e0:a.eval (.tmp 60)=.int .i64 v1:=e0;have e1:a.eval (.tmp 62)=.int .i64 v2:=e1;have e2:a.eval (.tmp 64)=.int .i64 v3:=e2;have e3:a.eval (.tmp 66)=.int .i64 v5:=e3;simp [execOp,hop,e0,e1,e2,e3,b,Result.andThen,pV]
  ·obtain ⟨o',ho',hop,hdst⟩:=pop17
   obtain rfl:=same ho' rfl;exact wp_move _ _ (Or.inl hop) ((h.old (t:=8) (by kernel_rfl)).trans h8) ⟨rfl,keep w (by decide) (Kept.refl _ _)⟩
  ·obtain ⟨o',ho',hop,hdst⟩:=pop18
   obtain rfl:=same ho' rfl;exact wp_look _ _ _ hop _ _ _ (h.get ho hdep (i:=17) (d:=68) (by kernel_rfl) rfl) rfl l4 ⟨rfl,keep w (by decide) (Kept.refl _ _)⟩
  ·obtain ⟨o',ho',hop,hdst⟩:=pop19
   obtain rfl:=same ho' rfl;exact wp_move _ _ (Or.inl hop) ((h.old (t:=7) (by kernel_rfl)).trans h7) ⟨rfl,keep w (by decide) (Kept.refl _ _)⟩
  ·obtain ⟨o',ho',hop,hdst⟩:=pop20
   obtain rfl:=same ho' rfl;have e:=(h.get ho hdep (i:=19) (d:=70) (by kernel_rfl) rfl)
   refine wp_run (.bool gnu) ?_ ⟨rfl,keep w (by decide) (Kept.refl _ _)⟩
   have e:a.eval (.tmp 70)=.string mg:=e;have ec:a.eval (.const (.string ⟨#[117,115,116,97,114,32,32,0]⟩))=.string ⟨#[117,115,116,97,114,32,32,0]⟩:=rfl;generalize a.eval=ev at e ec ⊢;simp [go_sem,execOp,hop,e,ec,hgn]
  ·obtain ⟨o',ho',hop,hdst⟩:=pop21
   obtain rfl:=same ho' rfl;have e0:a.eval (.tmp 54)=.string nm:=(h.get ho hdep (i:=3) (d:=54) (by kernel_rfl) rfl)
   have e1:a.eval (.tmp 56)=.string ln:=(h.get ho hdep (i:=5) (d:=56) (by kernel_rfl) rfl)
   have e2:a.eval (.tmp 58)=.int .u8 kd:=(h.get ho hdep (i:=7) (d:=58) (by kernel_rfl) rfl)
   have e3:a.eval (.tmp 67)=.agg #[.int .i64 v1,.int .i64 v2,.int .i64 v3,.int .i64 v5]:=(h.get ho hdep (i:=16) (d:=67) (by kernel_rfl) rfl)
   have e4:a.eval (.tmp 69)=.int .i64 v4:=(h.get ho hdep (i:=18) (d:=69) (by kernel_rfl) rfl)
   have e5:a.eval (.tmp 71)=.bool gnu:=(h.get ho hdep (i:=20) (d:=71) (by kernel_rfl) rfl)
   refine wp_run _ ?_ ⟨rfl,keep w (by decide) (Kept.refl _ _)⟩
   have b:=build_head w nm ln kd v1 v2 v3 v5 v4 gnu;simp [execOp,hop,e0,e1,e2,e3,e4,e5,b,Result.andThen,pV]
  ·obtain ⟨o',ho',hop,hdst⟩:=pop22
   obtain rfl:=same ho' rfl;have e0:=(h.old (t:=2) (by kernel_rfl)).trans h2
   have e1:=(h.get ho hdep (i:=21) (d:=72) (by kernel_rfl) rfl)
   have hh0:w.heap[g]? = some (.cells zeroCs 57 (0,0)):=by rw [getD_flip hun] at hh;exact hh
   refine wp_store9 _ _ hop g e0 nm ln kd v1 v2 v3 v5 v4 gnu e1 hh0 (fun w' hw' hk' => ⟨rfl,hk.trans hk',?_⟩)
   rw [listed_get hlt,if_pos rfl,if_pos rfl,hC];exact hw'
  ·obtain ⟨o',ho',hop,hdst⟩:=pop23
   obtain rfl:=same ho' rfl;exact wp_move _ _ (Or.inr hop) rfl ⟨rfl,keep w (by decide) (Kept.refl _ _)⟩
 ·intro listed a w h hall
  have all:∀ j,j < 24 → listed.getD j false=true:=fun j hj => hall j (by rw [parse_size];exact hj)
  obtain ⟨hk,hh⟩:=h.wd;rw [all 22 (by omega),if_pos rfl] at hh
  obtain ⟨o',ho',_,hdst⟩:=pop23;exact hQ a w h.df ((h.old (t:=2) (by kernel_rfl)).trans h2) (h.done 23 o' 3 ho' hdst (all 23 (by omega))) hh hk
end Go.Proofs.YtdjedimjhogdoaaGreatDoor.Head
end
section
namespace Go.Proofs.YtdjedimjhogdoaaGreatDoor.Head
open Go.ChangeShapes Go.WideShapes Go.ChangeAt Go.RowKit Base Byt Txt Hp Go.Proofs.YtdjedimjhogdoaaGreatDoor.Mp Fp Go.Proofs.YtdjedimjhogdoaaGreatDoor.Field Go.Lib
set_option linter.unusedVariables false
set_option maxRecDepth 100000
set_option maxHeartbeats 4000000 in
theorem parseH_any (p:Option Addr) (n c:Nat) (bs:List UInt8) (w:World) (hn:bs.length=n) (hc:n≤c) (hm0:c≤maxLen) (h:BAt w p n bs) :
 Calls Tryz.prog 52 #[.slice p n c] w fun e w' => e=.returned (headA (headR bs))∧Kept noneB w w':=by
 have hm:c≤9223372036854775807:=by unfold maxLen at hm0;omega
 have fl:=field_own;have HN:=Lib.hid hn;have H:=Lib.hid h;clear h hn
 by_cases h512:n=512
 ·subst h512
  obtain ⟨g,hg⟩:∃ g,g=w.heap.size:=⟨_,rfl⟩;obtain ⟨w0,hw0⟩:∃ w0,w0=w.alloc (.cells #[.string ⟨#[]⟩,.string ⟨#[]⟩,.int .u8 0,.int .i64 0,.int .i64 0,.int .i64 0,.int .i64 0,.int .i64 0,.bool false] 57):=⟨_,rfl⟩;have HK0:Hid (Kept noneB w w0):=Lib.hid (by rw [hw0];exact (Kept.refl noneB w).alloc _)
  have HG0:Hid (w0.heap[g]? = some (.cells zeroCs 57 (0,0))):=Lib.hid (by rw [hw0,hg];exact heap_alloc_new w _)
  have HGL:Hid (g < w0.heap.size):=Lib.hid (Array.getElem?_eq_some_iff.1 HG0.out).1;have HGE:Hid (g=w.heap.size):=Lib.hid hg;have HG:Hid (w.heap.size≤g):=Lib.hid (by omega)
  go_enter Tryz.func52,Tryz.ntmps52
  go_wp2_with fail
  rw [← hw0,← hg];clear hw0 hg;refine (read_any p c bs w0 HN.out hc (by unfold maxLen;omega) (H.out.kept HK0.out (fun _ _ _ => id))).mono ?_
  obtain ⟨g',hg'⟩:∃ g',g'=w0.heap.size:=⟨_,rfl⟩;have HLO:Hid (g'=w0.heap.size):=Lib.hid hg';rw [← hg'];clear hg';rintro e w1 ⟨B,r,rfl,hP1,hk1⟩;have HP1:=Lib.hid hP1;have HK1:=Lib.hid hk1;have lk6:(Instr.lookup 121 (.map (some B)) (.int .i64 6) false).run Tryz.prog w1=.ok (.agg #[.int .i64 148,.slice (some ⟨r 6,0,none⟩) 8 8]) w1:=lookB hP1 6 (by omega)
  clear hP1 hk1
  go_wp2_with fail
  refine (parse_any _ 8 8 (readO bs 6) w1 (HP1.out.fit 6) (Nat.le_refl _) (by decide) (HP1.out.bat (i:=6) (by omega))).mono ?_
  rintro e w2 ⟨rfl,hb2⟩;have hk2:Kept noneB w1 w2:=Kept.of_below hb2 _;have HP2:=Lib.hid (HP1.out.kept0 hk2);have HK2:=Lib.hid (HK1.out.trans hk2);have HG2:=Lib.hid (HK2.out.some_ HG0.out id);clear hb2 hk2 lk6;rw [readO_at bs 6 (by omega)]
  cases hps:parseF (fieldB bs 6) with
  | none =>
    have E:Hid (headR bs=(zeroH,3)):=Lib.hid (headR_sum HN.out (by rw [hps];simp))
    rw [vI_none,oI_none];have c0:=cellsAt HG2.out;have f0:=cellsFrozen HG2.out;unfold zeroCs at c0;clear hps
    go_wp2
    refine bodyPost_ret (ret_head rfl _ _ g _ rfl rfl ⟨#[]⟩ ⟨#[]⟩ 0 0 0 0 0 0 false (stored9 HG2.out _ _ _ _ _ _ _ _ _)) rfl ?_
    rw [E.out]
    exact ⟨rfl,(HK0.out.trans HK2.out).then (kept9 (Kept.refl (oneB g) _) _ _ _ _ _ _ _ _ _) (fun i hi => Or.inl (by
     have h1:i=g:=hi;rw [h1]
     exact HG.out))⟩
  | some sm =>
    rw [vI_some,oI_some];have hsum:=sum_parts (bs:=bs);have hple:=plainTo_le bs 512;have hsle:=sumTo_le bs 512;have hpf:=plainTo_le (fieldB bs 6) 8;obtain ⟨X,hX⟩:∃ X:Int,X=(sumTo bs 512:Nat):=⟨_,rfl⟩
    have hS:((plainTo bs 512:Nat):Int) - (plainTo (readO bs 6) 8:Nat)+256=X:=by
     rw [readO_at bs 6 (by omega),hX];omega
    have HS:=Lib.hid hS;have HX:=Lib.hid hX;have HPS0:=Lib.hid hps;have hbat2:BAt w2 p 512 bs:=(H.out.kept HK0.out (fun _ _ _ => id)).kept HK2.out (fun _ _ _ => id)
    have HB2:=Lib.hid hbat2;clear hsum hple hsle hpf hX hS hps hbat2
    by_cases hsX:sm=X
    ·subst hsX
     have HPS:Hid (parseF (fieldB bs 6)=some (sumTo bs 512:Int)):=Lib.hid (by rw [HPS0.out,HX.out])
     have hbX:(sm == sm)=true:=by simp
     go_wp2_with fail
     refine (sum_any g' B r (readO bs) p 512 c bs w2 (by omega) HB2.out HP2.out).mono ?_
     rintro e w2' ⟨rfl,rfl⟩;rw [HS.out];have lk9:(Instr.lookup 121 (.map (some B)) (.int .i64 9) false).run Tryz.prog w2=.ok (.agg #[.int .i64 257,.slice (some ⟨r 9,0,none⟩) 8 8]) w2:=lookB HP2.out 9 (by omega)
     have cs9:(convert 22 9 (.slice (some ⟨r 9,0,none⟩) 8 8)).run Tryz.prog w2=.ok (.string (str (fieldB bs 9))) w2:=by
      have:=conv_at (P:=Tryz.prog) (HP2.out.bat (i:=9) (by omega)) (HP2.out.fit 9) 22 5 9 Tryz.underlying22 Tryz.underlying5 Tryz.underlying9 8
      rw [readO_at bs 9 (by omega)] at this
      exact this
     by_cases hu:fieldB bs 9=ustarB
     ·have HM9:Hid (fieldB bs 9=ustarB ∨ fieldB bs 9=gnuB):=Lib.hid (Or.inl hu)
      have hm9:=hu;rw [hu,ustar_str] at cs9;clear hu;have HMF:Hid (gnuOf bs=false):=Lib.hid (by rw [gnuOf,hm9];decide)
      go_wp2_with fail
      refine (numbers_any g' B r (readO bs) w2 HP2.out).mono ?_
      intro e w3 h3;obtain ⟨hk3,(⟨hok,Q,rfl,hQ⟩ | ⟨hno,rfl⟩)⟩:=h3
      ·have HT:Hid (headR bs=(theHead bs,0)):=Lib.hid (headR_ok HN.out HPS.out HM9.out (by rw [← numsO_read];exact hok))
       have HK3:=Lib.hid (HK2.out.trans hk3);have HG3:=Lib.hid (hk3.some_ HG2.out id);have HP3:=Lib.hid (HP2.out.kept0 hk3);have HQ3:=Lib.hid hQ
       have hoff:Q≠g∧B≠g ∧ ∀ i,i < 11 → r i≠g:=by
        have h2:=HGL.out;have h3:=HLO.out;refine ⟨fun e => ?_,fun e => ?_,fun i hi e => ?_⟩
        ·obtain ⟨es,clock,hb,_⟩:=hQ
         have h1:=HG3.out;rw [← e,hb] at h1
         cases h1
        ·have h1:=HP3.out.lo.1
         omega
        ·have h1:=HP3.out.lo.2 i hi
         omega
       have HOFF:=Lib.hid hoff;clear hoff
       have HALL:Hid (∀ w',Kept (oneB g) w3 w' →
        (Instr.lookup 126 (.map (some Q)) (.int .i64 1) false).run Tryz.prog w'=.ok (.int .i64 (valB bs 1)) w' ∧
        (Instr.lookup 126 (.map (some Q)) (.int .i64 2) false).run Tryz.prog w'=.ok (.int .i64 (valB bs 2)) w' ∧
        (Instr.lookup 126 (.map (some Q)) (.int .i64 3) false).run Tryz.prog w'=.ok (.int .i64 (valB bs 3)) w' ∧
        (Instr.lookup 126 (.map (some Q)) (.int .i64 4) false).run Tryz.prog w'=.ok (.int .i64 (valB bs 4)) w' ∧
        (Instr.lookup 126 (.map (some Q)) (.int .i64 5) false).run Tryz.prog w'=.ok (.int .i64 (valB bs 5)) w'):=Lib.hid (fun w' hk => by
        have hq:=HQ3.out.kept hk HOFF.out.1
        have lk:∀ i,1≤i → i≤5 → (Instr.lookup 126 (.map (some Q)) (keyV i) false).run Tryz.prog w'=.ok (.int .i64 (valB bs i)) w':=fun i h1 h2 =>
         hq.look (P:=Tryz.prog) Tryz.underlying126 Tryz.underlying125 (by rw [numF_at _ h1 h2,readO_at bs i (by omega)];rfl)
        exact ⟨lk 1 (by omega) (by omega),lk 2 (by omega) (by omega),lk 3 (by omega) (by omega),lk 4 (by omega) (by omega),lk 5 (by omega) (by omega)⟩)
       clear hk3 hok hQ
       go_wp2_with fail
       refine wp_region_any (by kernel_rfl) (parse_region (w3:=w3) g g' B Q r (readO bs) ⟨#[117,115,116,97,114,0,48,48]⟩ false (valB bs 1) (valB bs 2) (valB bs 3) (valB bs 4) (valB bs 5) (show 73≤73 from Nat.le_refl 73) rfl rfl rfl rfl HP3.out HOFF.out.2.1 HOFF.out.2.2 HG3.out (fun w' hk => HALL.out w' hk) (by rw [← ustar_str,str_toList];decide) ?_)
       intro a' w' hd' h2' h3' hw' hk';have hT:(theHead bs).gnu=false:=HMF.out
       have HFIN:Hid (headA (headR bs)=.tuple #[.agg #[.string (str (nameF (untilB (readO bs 10)) (untilB (readO bs 0)) false)),.string (str (untilB (readO bs 8))),.int .u8 ((kindO (readO bs 7)).toNat:Int),.int .i64 (valB bs 1),.int .i64 (valB bs 2),.int .i64 (valB bs 3),.int .i64 (valB bs 5),.int .i64 (valB bs 4),.bool false],.int .i64 0]):=Lib.hid (by
        rw [HT.out];simp only [headA,headC,theHead,HMF.out]
        rfl)
       simp only [Exit.then]
       apply_assumption
       go_wp2
       refine bodyPost_ret (ret_head rfl _ _ g (.int .i64 0) h2' h3' _ _ _ _ _ _ _ _ _ hw') hd' ?_
       rw [HFIN.out]
       exact ⟨rfl,(HK0.out.trans HK3.out).then hk' (fun i hi => Or.inl (by
        have h1:i=g:=hi;rw [h1]
        exact HG.out))⟩
      ·have E:Hid (headR bs=(zeroH,4)):=Lib.hid (headR_num HN.out HPS.out HM9.out (by rw [← numsO_read];exact hno))
       have HK3:=Lib.hid (HK2.out.trans hk3);have HG3:=Lib.hid (hk3.some_ HG2.out id);have c0:=cellsAt HG3.out;have f0:=cellsFrozen HG3.out;unfold zeroCs at c0;clear hk3 hno
       go_wp2
       refine bodyPost_ret (ret_head rfl _ _ g _ rfl rfl ⟨#[]⟩ ⟨#[]⟩ 0 0 0 0 0 0 false (stored9 HG3.out _ _ _ _ _ _ _ _ _)) rfl ?_
       rw [E.out]
       exact ⟨rfl,(HK0.out.trans HK3.out).then (kept9 (Kept.refl (oneB g) _) _ _ _ _ _ _ _ _ _) (fun i hi => Or.inl (by
        have h1:i=g:=hi;rw [h1]
        exact HG.out))⟩
     ·by_cases hgn:fieldB bs 9=gnuB
      ·have HM9:Hid (fieldB bs 9=ustarB ∨ fieldB bs 9=gnuB):=Lib.hid (Or.inr hgn)
       have hm9:=hgn;rw [hgn,gnu_str] at cs9;clear hu hgn;have HMF:Hid (gnuOf bs=true):=Lib.hid (by rw [gnuOf,hm9];decide)
       go_wp2_with fail
       refine (numbers_any g' B r (readO bs) w2 HP2.out).mono ?_
       intro e w3 h3;obtain ⟨hk3,(⟨hok,Q,rfl,hQ⟩ | ⟨hno,rfl⟩)⟩:=h3
       ·have HT:Hid (headR bs=(theHead bs,0)):=Lib.hid (headR_ok HN.out HPS.out HM9.out (by rw [← numsO_read];exact hok))
        have HK3:=Lib.hid (HK2.out.trans hk3);have HG3:=Lib.hid (hk3.some_ HG2.out id);have HP3:=Lib.hid (HP2.out.kept0 hk3);have HQ3:=Lib.hid hQ
        have hoff:Q≠g∧B≠g ∧ ∀ i,i < 11 → r i≠g:=by
         have h2:=HGL.out;have h3:=HLO.out;refine ⟨fun e => ?_,fun e => ?_,fun i hi e => ?_⟩
         ·obtain ⟨es,clock,hb,_⟩:=hQ
          have h1:=HG3.out;rw [← e,hb] at h1
          cases h1
         ·have h1:=HP3.out.lo.1
          omega
         ·have h1:=HP3.out.lo.2 i hi
          omega
        have HOFF:=Lib.hid hoff;clear hoff
        have HALL:Hid (∀ w',Kept (oneB g) w3 w' →
         (Instr.lookup 126 (.map (some Q)) (.int .i64 1) false).run Tryz.prog w'=.ok (.int .i64 (valB bs 1)) w' ∧
         (Instr.lookup 126 (.map (some Q)) (.int .i64 2) false).run Tryz.prog w'=.ok (.int .i64 (valB bs 2)) w' ∧
         (Instr.lookup 126 (.map (some Q)) (.int .i64 3) false).run Tryz.prog w'=.ok (.int .i64 (valB bs 3)) w' ∧
         (Instr.lookup 126 (.map (some Q)) (.int .i64 4) false).run Tryz.prog w'=.ok (.int .i64 (valB bs 4)) w' ∧
         (Instr.lookup 126 (.map (some Q)) (.int .i64 5) false).run Tryz.prog w'=.ok (.int .i64 (valB bs 5)) w'):=Lib.hid (fun w' hk => by
         have hq:=HQ3.out.kept hk HOFF.out.1
         have lk:∀ i,1≤i → i≤5 → (Instr.lookup 126 (.map (some Q)) (keyV i) false).run Tryz.prog w'=.ok (.int .i64 (valB bs i)) w':=fun i h1 h2 =>
          hq.look (P:=Tryz.prog) Tryz.underlying126 Tryz.underlying125 (by rw [numF_at _ h1 h2,readO_at bs i (by omega)];rfl)
         exact ⟨lk 1 (by omega) (by omega),lk 2 (by omega) (by omega),lk 3 (by omega) (by omega),lk 4 (by omega) (by omega),lk 5 (by omega) (by omega)⟩)
        clear hk3 hok hQ
        go_wp2_with fail
        refine wp_region_any (by kernel_rfl) (parse_region (w3:=w3) g g' B Q r (readO bs) ⟨#[117,115,116,97,114,32,32,0]⟩ true (valB bs 1) (valB bs 2) (valB bs 3) (valB bs 4) (valB bs 5) (show 73≤73 from Nat.le_refl 73) rfl rfl rfl rfl HP3.out HOFF.out.2.1 HOFF.out.2.2 HG3.out (fun w' hk => HALL.out w' hk) (by rw [← gnu_str,str_toList];decide) ?_)
        intro a' w' hd' h2' h3' hw' hk';have hT:(theHead bs).gnu=true:=HMF.out
        have HFIN:Hid (headA (headR bs)=.tuple #[.agg #[.string (str (nameF (untilB (readO bs 10)) (untilB (readO bs 0)) true)),.string (str (untilB (readO bs 8))),.int .u8 ((kindO (readO bs 7)).toNat:Int),.int .i64 (valB bs 1),.int .i64 (valB bs 2),.int .i64 (valB bs 3),.int .i64 (valB bs 5),.int .i64 (valB bs 4),.bool true],.int .i64 0]):=Lib.hid (by
         rw [HT.out];simp only [headA,headC,theHead,HMF.out]
         rfl)
        simp only [Exit.then]
        apply_assumption
        go_wp2
        refine bodyPost_ret (ret_head rfl _ _ g (.int .i64 0) h2' h3' _ _ _ _ _ _ _ _ _ hw') hd' ?_
        rw [HFIN.out]
        exact ⟨rfl,(HK0.out.trans HK3.out).then hk' (fun i hi => Or.inl (by
         have h1:i=g:=hi;rw [h1]
         exact HG.out))⟩
       ·have E:Hid (headR bs=(zeroH,4)):=Lib.hid (headR_num HN.out HPS.out HM9.out (by rw [← numsO_read];exact hno))
        have HK3:=Lib.hid (HK2.out.trans hk3);have HG3:=Lib.hid (hk3.some_ HG2.out id);have c0:=cellsAt HG3.out;have f0:=cellsFrozen HG3.out;unfold zeroCs at c0;clear hk3 hno
        go_wp2
        refine bodyPost_ret (ret_head rfl _ _ g _ rfl rfl ⟨#[]⟩ ⟨#[]⟩ 0 0 0 0 0 0 false (stored9 HG3.out _ _ _ _ _ _ _ _ _)) rfl ?_
        rw [E.out]
        exact ⟨rfl,(HK0.out.trans HK3.out).then (kept9 (Kept.refl (oneB g) _) _ _ _ _ _ _ _ _ _) (fun i hi => Or.inl (by
         have h1:i=g:=hi;rw [h1]
         exact HG.out))⟩
      ·have E:Hid (headR bs=(zeroH,9)):=Lib.hid (headR_text HN.out HPS.out ⟨hu,hgn⟩)
       have q1:((str (fieldB bs 9)).toList == [117,115,116,97,114,0,48,48])=false:=by rw [str_toList];exact beq_eq_false_iff_ne.2 hu
       have q2:((str (fieldB bs 9)).toList == [117,115,116,97,114,32,32,0])=false:=by rw [str_toList];exact beq_eq_false_iff_ne.2 hgn
       have c0:=cellsAt HG2.out;have f0:=cellsFrozen HG2.out;unfold zeroCs at c0;clear hu hgn
       go_wp2
       refine bodyPost_ret (ret_head rfl _ _ g _ rfl rfl ⟨#[]⟩ ⟨#[]⟩ 0 0 0 0 0 0 false (stored9 HG2.out _ _ _ _ _ _ _ _ _)) rfl ?_
       rw [E.out]
       exact ⟨rfl,(HK0.out.trans HK2.out).then (kept9 (Kept.refl (oneB g) _) _ _ _ _ _ _ _ _ _) (fun i hi => Or.inl (by
        have h1:i=g:=hi;rw [h1]
        exact HG.out))⟩
    ·have E:Hid (headR bs=(zeroH,3)):=Lib.hid (headR_sum HN.out (by
      rw [HPS0.out,← HX.out];intro e
      exact hsX (Option.some.inj e)))
     have hbX:(sm == X)=false:=by simpa using hsX
     have c0:=cellsAt HG2.out;have f0:=cellsFrozen HG2.out;unfold zeroCs at c0
     go_wp2_with fail
     refine (sum_any g' B r (readO bs) p 512 c bs w2 (by omega) HB2.out HP2.out).mono ?_
     rintro e w2' ⟨rfl,rfl⟩;rw [HS.out]
     go_wp2
     refine bodyPost_ret (ret_head rfl _ _ g _ rfl rfl ⟨#[]⟩ ⟨#[]⟩ 0 0 0 0 0 0 false (stored9 HG2.out _ _ _ _ _ _ _ _ _)) rfl ?_
     rw [E.out]
     exact ⟨rfl,(HK0.out.trans HK2.out).then (kept9 (Kept.refl (oneB g) _) _ _ _ _ _ _ _ _ _) (fun i hi => Or.inl (by
      have h1:i=g:=hi;rw [h1]
      exact HG.out))⟩
 ·have E:Hid (headR bs=(zeroH,1)):=Lib.hid (headR_arg (by rw [HN.out];exact h512))
  have hb:((n:Int) == 512)=false:=by simp;omega
  have hk0:Kept noneB w (w.alloc (.cells #[.string ⟨#[]⟩,.string ⟨#[]⟩,.int .u8 0,.int .i64 0,.int .i64 0,.int .i64 0,.int .i64 0,.int .i64 0,.bool false] 57)):=(Kept.refl noneB w).alloc _;have HK0:=Lib.hid hk0;clear hk0
  go_enter Tryz.func52,Tryz.ntmps52
  go_wp2
  refine bodyPost_ret (ret_head rfl _ _ w.heap.size _ rfl rfl ⟨#[]⟩ ⟨#[]⟩ 0 0 0 0 0 0 false (heap_alloc_new _ _)) rfl ?_
  rw [E.out];exact ⟨rfl,HK0.out⟩
end Go.Proofs.YtdjedimjhogdoaaGreatDoor.Head
end
section
namespace Go.Proofs.YtdjedimjhogdoaaGreatDoor.Rec
open Go.ChangeShapes Go.WideShapes Go.ChangeAt Go.RowKit Base Byt Txt Path Go.Lib
set_option linter.unusedVariables false
set_option maxRecDepth 100000
theorem index_is (l:List UInt8) (c:UInt8) (i:Nat) (hi:i < l.length) (hn:∀ j,j < i → l.getD j 0≠c) (h:l.getD i 0=c):indexByte l c=i:=by
 have e:l=l.take i++c :: l.drop (i+1):=by
  have h2:l[i]=c:=by rw [← h,List.getD,List.getElem?_eq_getElem hi];rfl
  rw [← h2,List.getElem_cons_drop,List.take_append_drop]
 have hc:(l.take i).contains c=false:=by
  cases hh:(l.take i).contains c with
  | false => rfl
  | true =>
    obtain ⟨j,hj,he⟩:=List.mem_iff_getElem.1 (List.contains_iff_mem.1 hh);rw [List.length_take] at hj;rw [List.getElem_take] at he;exact absurd (by rw [List.getD,List.getElem?_eq_getElem (by omega),he];rfl) (hn j (by omega))
 rw [e,index_first _ _ _ hc,List.length_take];omega
theorem index_not (l:List UInt8) (c:UInt8) (hn:∀ j,j < l.length → l.getD j 0≠c):indexByte l c < 1:=by
 have h1:=index_has l c
 have hc:l.contains c=false:=by
  cases hh:l.contains c with
  | false => rfl
  | true =>
    obtain ⟨j,hj,he⟩:=List.mem_iff_getElem.1 (List.contains_iff_mem.1 hh);exact absurd (by rw [List.getD,List.getElem?_eq_getElem hj,he];rfl) (hn j hj)
 rw [hc,decide_eq_false_iff_not] at h1;omega
theorem ext_data (S:ByteArray) (a b:Nat):(S.extract a b).data.toList=(S.data.toList.drop a).take (b - a):=by
 rw [ByteArray.data_extract,Array.toList_extract,List.extract_eq_take_drop]
theorem ext_end (S:ByteArray) (a:Nat):S.extract a S.size=str (S.data.toList.drop a):=by
 apply ByteArray.ext;rw [← Array.toList_inj];show (S.extract a S.size).data.toList=_;rw [ext_data];simp only [str];rw [List.take_of_length_le (by rw [List.length_drop,← size_of];exact Nat.le_refl _)]
theorem ext_str (S:ByteArray) (a b:Nat):S.extract a b=str ((S.data.toList.drop a).take (b - a)):=by
 rw [← ext_data,str_of]
theorem recStep_go {R T:Int} {l:List UInt8} (h:¬ (digN l < 1 ∨ 7 < digN l ∨ l.getD 0 0=48 ∨ digN l=l.length ∨ l.getD (digN l) 0≠32)) :
 (l.length < valL (l.take (digN l)) ∨ valL (l.take (digN l)) < digN l+4 ∨ l.getD (valL (l.take (digN l)) - 1) 0≠10 → recStep R T l=.error R) ∧
 (¬ (l.length < valL (l.take (digN l)) ∨ valL (l.take (digN l)) < digN l+4 ∨ l.getD (valL (l.take (digN l)) - 1) 0≠10) → ∀ line,line=(l.drop (digN l+1)).take (valL (l.take (digN l)) - 1 - (digN l+1)) →
  (indexByte line 61 < 1 → recStep R T l=.error R)∧(¬ indexByte line 61 < 1 → textD line=false → recStep R T l=.error T) ∧
  (¬ indexByte line 61 < 1 → textD line=true → recStep R T l=.ok (line.take (indexByte line 61).toNat,line.drop ((indexByte line 61).toNat+1),valL (l.take (digN l))))):=by
 unfold recStep;rw [if_neg h];refine ⟨fun h1 => if_pos h1,fun h1 line hl => ?_⟩
 rw [if_neg h1,← hl];refine ⟨fun h2 => if_pos h2,fun h2 h3 => ?_,fun h2 h3 => ?_⟩
 ·dsimp only;rw [if_neg h2,if_pos h3]
 ·dsimp only;rw [if_neg h2,if_neg (by rw [h3];simp)]
theorem slice_str (S:ByteArray) (a b:Nat) (hab:a+1≤b) (hb:b≤S.size) (w:World) :
 (Instr.slice 9 (.string S) (some (.int .i64 ((a:Int)+1))) (some (.int .i64 (b:Int))) none).run Tryz.prog w=.ok (.string (S.extract (a+1) b)) w:=by
 have fl:=Tryz.underlying9;have h1:(a:Int)+1≤(b:Int):=by omega
 have h2:(b:Int)≤(S.size:Int):=by omega
 have h3:(0:Int)≤(a:Int)+1:=by omega
 have h4:((a:Int)+1).toNat=a+1:=by omega
 simp [go_sem,Instr.slice,Instr.sliceBounds,Result.andThen,h1,h2,h3,h4]
theorem slice_from_str (S:ByteArray) (a:Nat) (ha:a+1≤S.size) (w:World) :
 (Instr.slice 9 (.string S) (some (.int .i64 ((a:Int)+1))) none none).run Tryz.prog w=.ok (.string (str (S.data.toList.drop (a+1)))) w:=by
 have fl:=Tryz.underlying9;have h2:(a:Int)+1≤(S.size:Int):=by omega
 have h3:(0:Int)≤(a:Int)+1:=by omega
 have h4:((a:Int)+1).toNat=a+1:=by omega
 rw [← ext_end];simp [go_sem,Instr.slice,Instr.sliceBounds,Result.andThen,h2,h3,h4]
def RecsPost (R T:Int) (l:List UInt8) (w:World) (e:Ending) (w':World):Prop:=
 ∃ p c,e=.returned (.tuple #[.slice p (recsD R T l).1.length c,.int .i64 (recsD R T l).2])∧(recsD R T l).1.length≤c∧c≤maxLen∧RecsAt w' p (recsD R T l).1.length (recsD R T l).1∧Below w.heap.size w w'
theorem recs_err (R T:Int) (l:List UInt8) (w w':World) (er:Int) (h:recsD R T l=([],er)) (hb:Below w.heap.size w w'):RecsPost R T l w (.returned (.tuple #[.slice none 0 0,.int .i64 er])) w':=
 ⟨none,0,by rw [h];rfl,by rw [h];exact Nat.le_refl _,by decide,by rw [h];exact ⟨rfl,fun h => absurd h (by simp)⟩,hb⟩
def RecsPostN (R T:Int) (l:List UInt8) (w:World) (e:Ending) (w':World):Prop:=
 ∃ p c,e=.returned (.tuple #[.slice p (recsD R T l).1.length c,.int .i64 (recsD R T l).2])∧(recsD R T l).1.length≤c∧c≤maxLen∧RecsAt w' p (recsD R T l).1.length (recsD R T l).1∧Below w.heap.size w w' ∧ ∀ a,p=some a → w.heap.size≤a.block
theorem recsN_err (R T:Int) (l:List UInt8) (w w':World) (er:Int) (h:recsD R T l=([],er)) (hb:Below w.heap.size w w'):RecsPostN R T l w (.returned (.tuple #[.slice none 0 0,.int .i64 er])) w':=
 ⟨none,0,by rw [h];rfl,by rw [h];exact Nat.le_refl _,by decide,by rw [h];exact ⟨rfl,fun h => absurd h (by simp)⟩,hb,fun a ha => by cases ha⟩
theorem own_at {w:World} {base:Nat} {e:TypeId} {k:Nat} {v:Value} {n:Nat} {xs:List Value} (h:w.ownsRow base e k v n xs):∀ p m c,v=.slice p m c → ∀ a,p=some a → base≤a.block:=by
 intro p m c hv a ha;rcases h.2 with ⟨h1,_⟩ | ⟨g,cap,cur,h1,h2,_⟩
 ·rw [hv] at h1
  cases h1
  cases ha
 ·rw [hv] at h1
  cases h1
  cases ha
  exact h2
set_option maxHeartbeats 16000000 in
theorem records_new (p0:Option Addr) (n0 c0:Nat) (bs:List UInt8) (w:World) (hn:bs.length=n0) (hc:n0≤c0) (hm:n0≤1000000000000) (h:BAt w p0 n0 bs) :
 Calls Tryz.prog 36 #[.slice p0 n0 c0] w (RecsPostN 5 9 bs w):=by
 have cv:=conv_at h hn _ _ _ Tryz.underlying22 Tryz.underlying5 Tryz.underlying9 c0;have HN:=Lib.hid hn;obtain ⟨i0,hi,hz0,hz1,hz2⟩:=info_parts infoRec;have HI:=Lib.hid hi;have HZ0:=Lib.hid hz0;have HZ1:=Lib.hid hz1;have HZ2:=Lib.hid hz2;have mixed:Tryz.prog.follows .mixedOrders=true:=by kernel_rfl
 clear h hn hi hz0 hz1 hz2
 go_enter Tryz.func36,Tryz.ntmps36
 go_wp2_with fail
 rw [show (⟨bs.toArray⟩:ByteArray)=str bs from rfl]
 clear cv
 go_loopw [4,5] (fun o s wr => ∃ (l:List UInt8) (acc:List (List UInt8 × List UInt8)),s=.string (str l)∧Hid (wr.ownsRow w.heap.size 53 2 o acc.length (flatR acc))∧Hid (recsFrom 5 9 l acc=recsD 5 9 bs)∧Hid (acc.length+l.length≤n0)∧Hid (Below w.heap.size w wr)) (fun _ s _ => match s with | .string b => b.size | _ => 0)
 case atStart => exact ⟨bs,[],rfl,Lib.hid (World.ownsRow_nil _ _ _ _),Lib.hid rfl,Lib.hid (by rw [HN.out];simp),Lib.hid (Below.refl _ _)⟩
 case round =>
  obtain ⟨l,acc,rfl,hown,hr,hlen,hB⟩:=hrel;obtain ⟨S,hS⟩:∃ S,S=str l:=⟨_,rfl⟩;rw [← hS];have HSL:Hid (S.data.toList=l):=Lib.hid (by rw [hS,str_data])
  have HSZ:Hid (S.size=l.length):=Lib.hid (by rw [hS,str_size])
  have HSS:=Lib.hid hS;clear hS
  by_cases hl0:S.size=0
  ·have hl:l=[]:=List.length_eq_zero_iff.1 (by rw [← HSZ.out];exact hl0)
   have hG:Hid (recsD 5 9 bs=(acc,0)):=Lib.hid (by rw [← hr.out,hl,recsFrom_nil])
   have hz:¬ ((0:Int) < (S.size:Int)):=by omega
   have hloc:=own_at hown.out;obtain ⟨p,c,rfl,h1,h2,h3⟩:=recs_own hown.out;have H3:=Lib.hid (And.intro h1 (And.intro h2 h3));have HLOC:=Lib.hid (hloc p _ c rfl);clear hl hl0 h1 h2 h3 hloc
   go_wp2
   go_ret2
   refine ⟨p,c,by rw [hG.out];rfl,?_,H3.out.2.1,?_,hB.out,HLOC.out⟩
   ·rw [hG.out];exact H3.out.1
   ·rw [hG.out];exact H3.out.2.2
  ·have hpos:(0:Int) < (S.size:Int):=by omega
   have HNE:Hid (l≠[]):=Lib.hid (fun e => by have:=HSZ.out;rw [e] at this;exact hl0 this)
   have hsm:(S.size:Int)≤1000000000000:=by have:=HSZ.out;have:=hlen.out;omega
   have HG:Hid (∀ er,recStep 5 9 l=.error er → recsD 5 9 bs=([],er)):=Lib.hid (fun er he => by rw [← hr.out,recsFrom_step 5 9 l HNE.out,he])
   go_wp2_with fail
   go_loop [6] (fun i => ∃ (k:Nat),k≤S.size∧i=.int .i64 (k:Int)∧Hid (∀ j,j < k → isDig (l.getD j 0)=true)) (fun i => S.size - (RowKit.intOf i).toNat)
   case atStart => exact ⟨0,Nat.zero_le _,rfl,Lib.hid (fun j hj => absurd hj (by omega))⟩
   case round =>
    obtain ⟨k,hk,rfl,hd⟩:=hrel
    by_cases hlt:k < S.size
    ·have hx:Hid (S[k]=l.getD k 0):=Lib.hid (by rw [← HSL.out,idx_list S k hlt])
     obtain ⟨C,hC⟩:∃ C:Nat,(S[k]).toNat=C:=⟨_,rfl⟩;have hC2:((S[k]).toNat:Int)=(C:Int):=by rw [hC]
     have hC3:(C:Int)≤255:=by have:=(S[k]).toNat_lt;omega
     have HC:Hid ((l.getD k 0).toNat=C):=Lib.hid (by rw [← hx.out];exact hC)
     clear hC;have hltz:(k:Int) < (S.size:Int):=by omega
     by_cases g1:(48:Int)≤(C:Int)
     ·by_cases g2:(C:Int)≤57
      ·have HD:Hid (∀ j,j < k+1 → isDig (l.getD j 0)=true):=Lib.hid (fun j hj => by
        rcases Nat.lt_succ_iff_lt_or_eq.1 hj with h | rfl
        ·exact hd.out j h
        ·simp only [isDig,decide_eq_true_eq,HC.out];omega)
       go_wp2
       go_round
       case rel => exact ⟨k+1,by omega,by go_num,HD⟩
       case measure => simp [RowKit.intOf];omega
      ·have HK:Hid (digN l=k):=Lib.hid (digN_is l k (by rw [← HSZ.out];exact hk) hd.out (.inr (by simp only [isDig,HC.out,decide_eq_false_iff_not];omega)))
       by_cases t1:(k:Int) < 1
       ·have HE:=Lib.hid t1
        have E:Hid (recsD 5 9 bs=([],5)):=Lib.hid (HG.out 5 (by unfold recStep;rw [HK.out,if_pos (.inl (by omega))]))
        go_wp2
        go_ret2
        exact recsN_err 5 9 bs w _ 5 E.out hB.out
       ·by_cases t2:(7:Int) < (k:Int)
        ·have HE:=Lib.hid t2
         have E:Hid (recsD 5 9 bs=([],5)):=Lib.hid (HG.out 5 (by unfold recStep;rw [HK.out,if_pos (.inr (.inl (by omega)))]))
         go_wp2
         go_ret2
         exact recsN_err 5 9 bs w _ 5 E.out hB.out
        ·by_cases t3:S[0]=48
         ·have t3b:(((S[0]).toNat:Int) == 48)=true:=by rw [t3];rfl
          have HE:Hid (l.getD 0 0=48):=Lib.hid (by rw [← HSL.out,idx_list S 0 (by omega)];exact t3)
          clear t3;have E:Hid (recsD 5 9 bs=([],5)):=Lib.hid (HG.out 5 (by unfold recStep;rw [HK.out,if_pos (.inr (.inr (.inl HE.out)))]))
          go_wp2
          go_ret2
          exact recsN_err 5 9 bs w _ 5 E.out hB.out
         ·have t3b:(((S[0]).toNat:Int) == 48)=false:=by
           have:¬ (S[0]).toNat=48:=fun e => t3 (UInt8.toNat_inj.1 e)
           rw [beq_eq_false_iff_ne];omega
          have HE0:Hid (l.getD 0 0≠48):=Lib.hid (by rw [← HSL.out,idx_list S 0 (by omega)];exact t3)
          have t4:((k:Int) == (S.size:Int))=false:=by rw [beq_eq_false_iff_ne];omega
          clear t3
          by_cases t5:(C:Int)=32
          ·have t5b:((C:Int) != 32)=false:=by simp;omega
           have HE5:Hid (l.getD k 0=32):=Lib.hid (UInt8.toNat_inj.1 (by rw [HC.out];show C=32;omega))
           clear t5
           have HOK:Hid (¬ (digN l < 1 ∨ 7 < digN l ∨ l.getD 0 0=48 ∨ digN l=l.length ∨ l.getD (digN l) 0≠32)):=Lib.hid (by
            rw [HK.out];rintro (e | e | e | e | e)
            ·omega
            ·omega
            ·exact HE0.out e
            ·have:=HSZ.out;omega
            ·exact e HE5.out)
           obtain ⟨N,hN⟩:∃ N,N=valL (l.take k):=⟨_,rfl⟩;have hdt:=digN_take l
           have HWV:Hid (wholeV (wholeD (S.extract 0 k).data.toList)=.tuple #[.int .i64 (N:Int),.bool true]):=Lib.hid (by
            rw [ext_data,HSL.out,List.drop_zero,Nat.sub_zero];have h1:(l.take k).length=k:=by rw [List.length_take];have:=HSZ.out;omega
            unfold wholeD;rw [if_neg (by rw [h1];omega),if_pos (List.all_eq_true.2 (by rw [← HK.out];exact hdt.2)),← hN]
            rfl)
           obtain ⟨q1,q2⟩:=recStep_go (R:=5) (T:=9) HOK.out;rw [HK.out,← hN] at q1 q2;have HQ1:=Lib.hid q1;have HQ2:=Lib.hid q2;have HNN:=Lib.hid hN;clear hN hdt q1 q2;have hkz:(k:Int)≤(S.size:Int):=by omega
           go_wp2_with fail
           refine (whole_any (S.extract 0 k) wr).mono ?_
           rintro e w' ⟨rfl,rfl⟩;rw [HWV.out]
           by_cases u1:(S.size:Int) < (N:Int)
           ·have HE:=Lib.hid u1
            have E:Hid (recsD 5 9 bs=([],5)):=Lib.hid (HG.out 5 (by exact HQ1.out (.inl (by have:=HSZ.out;omega))))
            go_wp2
            go_ret2
            exact recsN_err 5 9 bs w _ 5 E.out hB.out
           ·by_cases u2:(N:Int) < (k:Int)+4
            ·have HE:=Lib.hid u2
             have E:Hid (recsD 5 9 bs=([],5)):=Lib.hid (HG.out 5 (by exact HQ1.out (.inr (.inl (by omega)))))
             go_wp2
             go_ret2
             exact recsN_err 5 9 bs w _ 5 E.out hB.out
            ·obtain ⟨M,hM⟩:∃ M,N=M+1:=⟨N - 1,by omega⟩
             subst hM;have hMS:M < S.size:=by omega
             have hkM:k+1≤M:=by omega
             have hkMz:(k:Int)+1≤(M:Int):=by omega
             have hMSz:(M:Int)≤(S.size:Int):=by omega
             have hMa:((M+1:Nat):Int) - 1=(M:Int):=by omega
             have HX10:Hid (l.getD M 0=S[M]):=Lib.hid (by rw [← HSL.out,idx_list S M hMS])
             by_cases u3:S[M]=10
             ·have u3b:(((S[M]).toNat:Int) != 10)=false:=by rw [u3];rfl
              have HU3:Hid (¬ (l.length < M+1 ∨ M+1 < k+4 ∨ l.getD (M+1 - 1) 0≠10)):=Lib.hid (by
               rintro (e | e | e)
               ·have:=HSZ.out;omega
               ·omega
               ·exact e (by rw [Nat.add_sub_cancel,HX10.out,u3]))
              clear u3;have sl:=slice_str S k M hkM (Nat.le_of_lt hMS);obtain ⟨X,hX⟩:∃ X,S.extract (k+1) M=X:=⟨_,rfl⟩;rw [hX] at sl;have HXL:Hid (X.data.toList=(l.drop (k+1)).take (M+1 - 1 - (k+1))):=Lib.hid (by rw [← hX,ext_data,HSL.out,Nat.add_sub_cancel])
              have HQ:=Lib.hid (HQ2.out HU3.out X.data.toList HXL.out)
              have hXs:(X.size:Int)≤1000000000000:=by
               have h1:=size_of X;rw [HXL.out,List.length_take,List.length_drop] at h1;omega
              go_wp2_with fail
              go_loop [10,11] (fun a b => ∃ (i:Nat),i≤X.size∧a=.int .i64 (-1)∧b=.int .i64 (i:Int)∧Hid (∀ j,j < i → X.data.toList.getD j 0≠61)) (fun _ b => X.size - (RowKit.intOf b).toNat)
              case atStart => exact ⟨0,Nat.zero_le _,rfl,rfl,Lib.hid (fun j hj => absurd hj (by omega))⟩
              case round =>
               obtain ⟨i,hi,rfl,rfl,hno⟩:=hrel
               by_cases hil:i < X.size
               ·have hx1:Hid (X[i]=X.data.toList.getD i 0):=Lib.hid (idx_list X i hil).symm
                by_cases g61:X[i]=61
                ·have b61:(((X[i]).toNat:Int) == 61)=true:=by rw [g61];rfl
                 have HIX:Hid (indexByte X.data.toList 61=i):=Lib.hid (index_is _ 61 i (by rw [← size_of];exact hil) hno.out (by rw [← hx1.out];exact g61))
                 clear g61
                 by_cases i1:(i:Int) < 1
                 ·have HE:=Lib.hid i1
                  have E:Hid (recsD 5 9 bs=([],5)):=Lib.hid (HG.out 5 (by exact HQ.out.1 (by rw [HIX.out];exact HE.out)))
                  go_wp2
                  go_ret2
                  exact recsN_err 5 9 bs w _ 5 E.out hB.out
                 ·have HI1:Hid (1≤indexByte X.data.toList 61):=Lib.hid (by rw [HIX.out];omega)
                  cases ht:textD X.data.toList with
                  | false =>
                    have HTX:Hid (recStep 5 9 l=.error 9):=Lib.hid (by first | exact HQ.out.2.1 HI1.out ht | exact HQ.out.2.1 (Int.not_lt.2 HI1.out) ht)
                    go_wp2_with fail
                    refine (rtext_any X wr (by omega)).mono ?_
                    rw [ht];rintro e w' ⟨rfl,rfl⟩;have E:Hid (recsD 5 9 bs=([],9)):=Lib.hid (HG.out 9 (by exact HTX.out))
                    go_wp2
                    go_ret2
                    exact recsN_err 5 9 bs w _ 9 E.out hB.out
                  | true =>
                    have hst:recStep 5 9 l=.ok (X.data.toList.take i,X.data.toList.drop (i+1),M+1):=by
                     have h1:recStep 5 9 l=.ok (X.data.toList.take (indexByte X.data.toList 61).toNat,X.data.toList.drop ((indexByte X.data.toList 61).toNat+1),M+1):=by first | exact HQ.out.2.2 HI1.out ht | exact HQ.out.2.2 (Int.not_lt.2 HI1.out) ht
                     rw [HIX.out,Int.toNat_natCast] at h1;exact h1
                    have s2:=slice_from_str S M hMS;rw [HSL.out] at s2;obtain ⟨kk,hkk⟩:∃ kk,X.data.toList.take i=kk:=⟨_,rfl⟩;obtain ⟨vv,hvv⟩:∃ vv,X.data.toList.drop (i+1)=vv:=⟨_,rfl⟩;rw [hkk] at hst;rw [hvv] at hst;have HEK:Hid (X.extract 0 i=str kk∧X.extract (i+1) X.size=str vv):=Lib.hid ⟨by rw [ext_str,List.drop_zero,Nat.sub_zero,hkk],by rw [ext_end,hvv]⟩
                    have HST:Hid (recsFrom 5 9 (l.drop (M+1)) (acc++[(kk,vv)])=recsD 5 9 bs):=Lib.hid (by rw [← hr.out,recsFrom_step 5 9 l HNE.out,hst])
                    clear hkk hvv hst
                    go_wp2_with fail
                    refine (rtext_any X wr (by omega)).mono ?_
                    rw [ht];rintro e w' ⟨rfl,rfl⟩;have HOWN:Hid (World.ownsRow (wr.drew.alloc (.cells #[.string (X.extract 0 i),.string (X.extract (i+1) X.size)] 53)) w.heap.size 53 2 u4 acc.length (flatR acc)):=Lib.hid (World.ownsRow.alloc (w:=wr.drew) hown.out _);have HBD:Hid (Below w.heap.size w (wr.drew.alloc (.cells #[.string (X.extract 0 i),.string (X.extract (i+1) X.size)] 53))):=Lib.hid ((below_drewN hB.out 1).alloc hB.out.size _)
                    have HCL:Hid (∀ j u,([Value.string (X.extract 0 i),.string (X.extract (i+1) X.size)]:List Value)[j]? = some u → (wr.drew.alloc (.cells #[.string (X.extract 0 i),.string (X.extract (i+1) X.size)] 53)).cell? ((⟨wr.heap.size,0,none⟩:Addr).add j)=some u):=Lib.hid (fun j u hj => by
                     obtain ⟨g0,g1⟩:=cells2 wr.drew 53 (.string (X.extract 0 i)) (.string (X.extract (i+1) X.size))
                     match j,hj with
                     | 0,hj => cases hj;exact g0
                     | 1,hj => cases hj;exact g1
                     | j+2,hj => simp at hj)
                    have HAL:Hid (acc.length+1≤1000000000001):=Lib.hid (by have:=hlen.out;omega)
                    have HSZ1:Hid (w.heap.size≤(wr.drew.alloc (.cells #[.string (X.extract 0 i),.string (X.extract (i+1) X.size)] 53)).heap.size):=Lib.hid HBD.out.size;have q1:(0:Int)≤(i:Int):=by omega
                    have q2:(i:Int)≤(X.size:Int):=by omega
                    have q3:(0:Int)≤(i:Int)+1:=by omega
                    have q4:(i:Int)+1≤(X.size:Int):=by omega
                    have q5:IntKind.i64.wrap ((i:Int)+1)=(i:Int)+1:=by rw [IntKind.wrap_i64];omega
                    go_wp2_with fail
                    go_region_held_law (fun w' => w'.os=w'.os) (rfl) (first
                     | (refine step_append_own (by kernel_rfl) _ _ 73 rfl w.heap.size 53 i0 (.agg #[.string ⟨#[]⟩,.string ⟨#[]⟩]) 2 32 Tryz.underlying73 HI.out HZ0.out HZ1.out HZ2.out rfl (by decide) u4 acc.length (flatR acc) rfl HOWN.out ⟨wr.heap.size,0,none⟩ 1 1 [.string (X.extract 0 i),.string (X.extract (i+1) X.size)] rfl rfl HCL.out ?_ ?_ ?_ HSZ1.out ?_
                        (intro u hu;rcases List.mem_cons.1 hu with rfl | hu;rfl;rcases List.mem_cons.1 hu with rfl | hu;rfl;cases hu)
                        (have:=HAL.out;unfold maxLen;omega)
                        (have:=HAL.out;omega)
                        intro v' w1 hown' hgrow _)
                     | fail)
                    have HOW1:Hid (w1.ownsRow w.heap.size 53 2 v' (acc++[(kk,vv)]).length (flatR (acc++[(kk,vv)]))):=Lib.hid (by
                     rw [flatR_snoc,List.length_append,← HEK.out.1,← HEK.out.2];exact hown')
                    have HBW:Hid (Below w.heap.size w w1):=Lib.hid (HBD.out.grown hgrow HBD.out.size (fun b hb => by
                     rcases HOWN.out.2 with ⟨rfl,_⟩ | ⟨g,cap,cur,rfl,hb2,_⟩
                     ·cases hb
                     ·cases hb;exact hb2))
                    clear hown' hgrow;simp only [List.getElem_toArray,List.getElem_cons_succ,List.getElem_cons_zero];simp only [List.setIfInBounds_toArray,List.set_cons_succ,List.set_cons_zero]
                    go_wp2_with fail
                    go_roundw
                    case rel => exact ⟨l.drop (M+1),acc++[(kk,vv)],rfl,HOW1,HST,Lib.hid (by have h1:=HSZ.out;have h2:=hlen.out;rw [List.length_append,List.length_drop];simp only [List.length_cons,List.length_nil];omega),HBW⟩
                    case measure => have h1:=HSZ.out;simp only [str_size,List.length_drop];omega
                ·have b61:(((X[i]).toNat:Int) == 61)=false:=by
                  have:¬ (X[i]).toNat=61:=fun e => g61 (UInt8.toNat_inj.1 e)
                  rw [beq_eq_false_iff_ne];omega
                 have HNX:Hid (∀ j,j < i+1 → X.data.toList.getD j 0≠61):=Lib.hid (fun j hj => by
                  rcases Nat.lt_succ_iff_lt_or_eq.1 hj with h | rfl
                  ·exact hno.out j h
                  ·rw [← hx1.out];exact g61)
                 clear g61
                 go_wp2
                 go_round
                 case rel => exact ⟨i+1,by omega,rfl,by go_num,HNX⟩
                 case measure => simp [RowKit.intOf];omega
               ·have HE:Hid (indexByte X.data.toList 61 < 1):=Lib.hid (index_not _ 61 (fun j hj => hno.out j (by rw [← size_of] at hj;omega)))
                have E:Hid (recsD 5 9 bs=([],5)):=Lib.hid (HG.out 5 (by exact HQ.out.1 HE.out))
                go_wp2
                go_ret2
                exact recsN_err 5 9 bs w _ 5 E.out hB.out
             ·have u3b:(((S[M]).toNat:Int) != 10)=true:=by
               have:¬ (S[M]).toNat=10:=fun e => u3 (UInt8.toNat_inj.1 e)
               simp;omega
              have HU3:Hid (l.getD (M+1 - 1) 0≠10):=Lib.hid (by rw [Nat.add_sub_cancel,HX10.out];exact u3)
              clear u3;have E:Hid (recsD 5 9 bs=([],5)):=Lib.hid (HG.out 5 (by exact HQ1.out (.inr (.inr HU3.out))))
              go_wp2
              go_ret2
              exact recsN_err 5 9 bs w _ 5 E.out hB.out
          ·have t5b:((C:Int) != 32)=true:=by simp;omega
           have HE5:Hid (l.getD k 0≠32):=Lib.hid (fun e => t5 (by have:=congrArg UInt8.toNat e;rw [HC.out] at this;rw [this];rfl))
           clear t5;have E:Hid (recsD 5 9 bs=([],5)):=Lib.hid (HG.out 5 (by unfold recStep;rw [HK.out,if_pos (.inr (.inr (.inr (.inr HE5.out))))]))
           go_wp2
           go_ret2
           exact recsN_err 5 9 bs w _ 5 E.out hB.out
     ·have HK:Hid (digN l=k):=Lib.hid (digN_is l k (by rw [← HSZ.out];exact hk) hd.out (.inr (by simp only [isDig,HC.out,decide_eq_false_iff_not];omega)))
      by_cases t1:(k:Int) < 1
      ·have HE:=Lib.hid t1
       have E:Hid (recsD 5 9 bs=([],5)):=Lib.hid (HG.out 5 (by unfold recStep;rw [HK.out,if_pos (.inl (by omega))]))
       go_wp2
       go_ret2
       exact recsN_err 5 9 bs w _ 5 E.out hB.out
      ·by_cases t2:(7:Int) < (k:Int)
       ·have HE:=Lib.hid t2
        have E:Hid (recsD 5 9 bs=([],5)):=Lib.hid (HG.out 5 (by unfold recStep;rw [HK.out,if_pos (.inr (.inl (by omega)))]))
        go_wp2
        go_ret2
        exact recsN_err 5 9 bs w _ 5 E.out hB.out
       ·by_cases t3:S[0]=48
        ·have t3b:(((S[0]).toNat:Int) == 48)=true:=by rw [t3];rfl
         have HE:Hid (l.getD 0 0=48):=Lib.hid (by rw [← HSL.out,idx_list S 0 (by omega)];exact t3)
         clear t3;have E:Hid (recsD 5 9 bs=([],5)):=Lib.hid (HG.out 5 (by unfold recStep;rw [HK.out,if_pos (.inr (.inr (.inl HE.out)))]))
         go_wp2
         go_ret2
         exact recsN_err 5 9 bs w _ 5 E.out hB.out
        ·have t3b:(((S[0]).toNat:Int) == 48)=false:=by
          have:¬ (S[0]).toNat=48:=fun e => t3 (UInt8.toNat_inj.1 e)
          rw [beq_eq_false_iff_ne];omega
         have HE0:Hid (l.getD 0 0≠48):=Lib.hid (by rw [← HSL.out,idx_list S 0 (by omega)];exact t3)
         have t4:((k:Int) == (S.size:Int))=false:=by rw [beq_eq_false_iff_ne];omega
         clear t3
         by_cases t5:(C:Int)=32
         ·have t5b:((C:Int) != 32)=false:=by simp;omega
          have HE5:Hid (l.getD k 0=32):=Lib.hid (UInt8.toNat_inj.1 (by rw [HC.out];show C=32;omega))
          clear t5
          have HOK:Hid (¬ (digN l < 1 ∨ 7 < digN l ∨ l.getD 0 0=48 ∨ digN l=l.length ∨ l.getD (digN l) 0≠32)):=Lib.hid (by
           rw [HK.out];rintro (e | e | e | e | e)
           ·omega
           ·omega
           ·exact HE0.out e
           ·have:=HSZ.out;omega
           ·exact e HE5.out)
          obtain ⟨N,hN⟩:∃ N,N=valL (l.take k):=⟨_,rfl⟩;have hdt:=digN_take l
          have HWV:Hid (wholeV (wholeD (S.extract 0 k).data.toList)=.tuple #[.int .i64 (N:Int),.bool true]):=Lib.hid (by
           rw [ext_data,HSL.out,List.drop_zero,Nat.sub_zero];have h1:(l.take k).length=k:=by rw [List.length_take];have:=HSZ.out;omega
           unfold wholeD;rw [if_neg (by rw [h1];omega),if_pos (List.all_eq_true.2 (by rw [← HK.out];exact hdt.2)),← hN]
           rfl)
          obtain ⟨q1,q2⟩:=recStep_go (R:=5) (T:=9) HOK.out;rw [HK.out,← hN] at q1 q2;have HQ1:=Lib.hid q1;have HQ2:=Lib.hid q2;have HNN:=Lib.hid hN;clear hN hdt q1 q2;have hkz:(k:Int)≤(S.size:Int):=by omega
          go_wp2_with fail
          refine (whole_any (S.extract 0 k) wr).mono ?_
          rintro e w' ⟨rfl,rfl⟩;rw [HWV.out]
          by_cases u1:(S.size:Int) < (N:Int)
          ·have HE:=Lib.hid u1
           have E:Hid (recsD 5 9 bs=([],5)):=Lib.hid (HG.out 5 (by exact HQ1.out (.inl (by have:=HSZ.out;omega))))
           go_wp2
           go_ret2
           exact recsN_err 5 9 bs w _ 5 E.out hB.out
          ·by_cases u2:(N:Int) < (k:Int)+4
           ·have HE:=Lib.hid u2
            have E:Hid (recsD 5 9 bs=([],5)):=Lib.hid (HG.out 5 (by exact HQ1.out (.inr (.inl (by omega)))))
            go_wp2
            go_ret2
            exact recsN_err 5 9 bs w _ 5 E.out hB.out
           ·obtain ⟨M,hM⟩:∃ M,N=M+1:=⟨N - 1,by omega⟩
            subst hM;have hMS:M < S.size:=by omega
            have hkM:k+1≤M:=by omega
            have hkMz:(k:Int)+1≤(M:Int):=by omega
            have hMSz:(M:Int)≤(S.size:Int):=by omega
            have hMa:((M+1:Nat):Int) - 1=(M:Int):=by omega
            have HX10:Hid (l.getD M 0=S[M]):=Lib.hid (by rw [← HSL.out,idx_list S M hMS])
            by_cases u3:S[M]=10
            ·have u3b:(((S[M]).toNat:Int) != 10)=false:=by rw [u3];rfl
             have HU3:Hid (¬ (l.length < M+1 ∨ M+1 < k+4 ∨ l.getD (M+1 - 1) 0≠10)):=Lib.hid (by
              rintro (e | e | e)
              ·have:=HSZ.out;omega
              ·omega
              ·exact e (by rw [Nat.add_sub_cancel,HX10.out,u3]))
             clear u3;have sl:=slice_str S k M hkM (Nat.le_of_lt hMS);obtain ⟨X,hX⟩:∃ X,S.extract (k+1) M=X:=⟨_,rfl⟩;rw [hX] at sl;have HXL:Hid (X.data.toList=(l.drop (k+1)).take (M+1 - 1 - (k+1))):=Lib.hid (by rw [← hX,ext_data,HSL.out,Nat.add_sub_cancel])
             have HQ:=Lib.hid (HQ2.out HU3.out X.data.toList HXL.out)
             have hXs:(X.size:Int)≤1000000000000:=by
              have h1:=size_of X;rw [HXL.out,List.length_take,List.length_drop] at h1;omega
             go_wp2_with fail
             go_loop [10,11] (fun a b => ∃ (i:Nat),i≤X.size∧a=.int .i64 (-1)∧b=.int .i64 (i:Int)∧Hid (∀ j,j < i → X.data.toList.getD j 0≠61)) (fun _ b => X.size - (RowKit.intOf b).toNat)
             case atStart => exact ⟨0,Nat.zero_le _,rfl,rfl,Lib.hid (fun j hj => absurd hj (by omega))⟩
             case round =>
              obtain ⟨i,hi,rfl,rfl,hno⟩:=hrel
              by_cases hil:i < X.size
              ·have hx1:Hid (X[i]=X.data.toList.getD i 0):=Lib.hid (idx_list X i hil).symm
               by_cases g61:X[i]=61
               ·have b61:(((X[i]).toNat:Int) == 61)=true:=by rw [g61];rfl
                have HIX:Hid (indexByte X.data.toList 61=i):=Lib.hid (index_is _ 61 i (by rw [← size_of];exact hil) hno.out (by rw [← hx1.out];exact g61))
                clear g61
                by_cases i1:(i:Int) < 1
                ·have HE:=Lib.hid i1
                 have E:Hid (recsD 5 9 bs=([],5)):=Lib.hid (HG.out 5 (by exact HQ.out.1 (by rw [HIX.out];exact HE.out)))
                 go_wp2
                 go_ret2
                 exact recsN_err 5 9 bs w _ 5 E.out hB.out
                ·have HI1:Hid (1≤indexByte X.data.toList 61):=Lib.hid (by rw [HIX.out];omega)
                 cases ht:textD X.data.toList with
                 | false =>
                   have HTX:Hid (recStep 5 9 l=.error 9):=Lib.hid (by first | exact HQ.out.2.1 HI1.out ht | exact HQ.out.2.1 (Int.not_lt.2 HI1.out) ht)
                   go_wp2_with fail
                   refine (rtext_any X wr (by omega)).mono ?_
                   rw [ht];rintro e w' ⟨rfl,rfl⟩;have E:Hid (recsD 5 9 bs=([],9)):=Lib.hid (HG.out 9 (by exact HTX.out))
                   go_wp2
                   go_ret2
                   exact recsN_err 5 9 bs w _ 9 E.out hB.out
                 | true =>
                   have hst:recStep 5 9 l=.ok (X.data.toList.take i,X.data.toList.drop (i+1),M+1):=by
                    have h1:recStep 5 9 l=.ok (X.data.toList.take (indexByte X.data.toList 61).toNat,X.data.toList.drop ((indexByte X.data.toList 61).toNat+1),M+1):=by first | exact HQ.out.2.2 HI1.out ht | exact HQ.out.2.2 (Int.not_lt.2 HI1.out) ht
                    rw [HIX.out,Int.toNat_natCast] at h1;exact h1
                   have s2:=slice_from_str S M hMS;rw [HSL.out] at s2;obtain ⟨kk,hkk⟩:∃ kk,X.data.toList.take i=kk:=⟨_,rfl⟩;obtain ⟨vv,hvv⟩:∃ vv,X.data.toList.drop (i+1)=vv:=⟨_,rfl⟩;rw [hkk] at hst;rw [hvv] at hst;have HEK:Hid (X.extract 0 i=str kk∧X.extract (i+1) X.size=str vv):=Lib.hid ⟨by rw [ext_str,List.drop_zero,Nat.sub_zero,hkk],by rw [ext_end,hvv]⟩
                   have HST:Hid (recsFrom 5 9 (l.drop (M+1)) (acc++[(kk,vv)])=recsD 5 9 bs):=Lib.hid (by rw [← hr.out,recsFrom_step 5 9 l HNE.out,hst])
                   clear hkk hvv hst
                   go_wp2_with fail
                   refine (rtext_any X wr (by omega)).mono ?_
                   rw [ht];rintro e w' ⟨rfl,rfl⟩;have HOWN:Hid (World.ownsRow (wr.drew.alloc (.cells #[.string (X.extract 0 i),.string (X.extract (i+1) X.size)] 53)) w.heap.size 53 2 u4 acc.length (flatR acc)):=Lib.hid (World.ownsRow.alloc (w:=wr.drew) hown.out _);have HBD:Hid (Below w.heap.size w (wr.drew.alloc (.cells #[.string (X.extract 0 i),.string (X.extract (i+1) X.size)] 53))):=Lib.hid ((below_drewN hB.out 1).alloc hB.out.size _)
                   have HCL:Hid (∀ j u,([Value.string (X.extract 0 i),.string (X.extract (i+1) X.size)]:List Value)[j]? = some u → (wr.drew.alloc (.cells #[.string (X.extract 0 i),.string (X.extract (i+1) X.size)] 53)).cell? ((⟨wr.heap.size,0,none⟩:Addr).add j)=some u):=Lib.hid (fun j u hj => by
                    obtain ⟨g0,g1⟩:=cells2 wr.drew 53 (.string (X.extract 0 i)) (.string (X.extract (i+1) X.size))
                    match j,hj with
                    | 0,hj => cases hj;exact g0
                    | 1,hj => cases hj;exact g1
                    | j+2,hj => simp at hj)
                   have HAL:Hid (acc.length+1≤1000000000001):=Lib.hid (by have:=hlen.out;omega)
                   have HSZ1:Hid (w.heap.size≤(wr.drew.alloc (.cells #[.string (X.extract 0 i),.string (X.extract (i+1) X.size)] 53)).heap.size):=Lib.hid HBD.out.size;have q1:(0:Int)≤(i:Int):=by omega
                   have q2:(i:Int)≤(X.size:Int):=by omega
                   have q3:(0:Int)≤(i:Int)+1:=by omega
                   have q4:(i:Int)+1≤(X.size:Int):=by omega
                   have q5:IntKind.i64.wrap ((i:Int)+1)=(i:Int)+1:=by rw [IntKind.wrap_i64];omega
                   go_wp2_with fail
                   go_region_held_law (fun w' => w'.os=w'.os) (rfl) (first
                    | (refine step_append_own (by kernel_rfl) _ _ 73 rfl w.heap.size 53 i0 (.agg #[.string ⟨#[]⟩,.string ⟨#[]⟩]) 2 32 Tryz.underlying73 HI.out HZ0.out HZ1.out HZ2.out rfl (by decide) u4 acc.length (flatR acc) rfl HOWN.out ⟨wr.heap.size,0,none⟩ 1 1 [.string (X.extract 0 i),.string (X.extract (i+1) X.size)] rfl rfl HCL.out ?_ ?_ ?_ HSZ1.out ?_
                       (intro u hu;rcases List.mem_cons.1 hu with rfl | hu;rfl;rcases List.mem_cons.1 hu with rfl | hu;rfl;cases hu)
                       (have:=HAL.out;unfold maxLen;omega)
                       (have:=HAL.out;omega)
                       intro v' w1 hown' hgrow _)
                    | fail)
                   have HOW1:Hid (w1.ownsRow w.heap.size 53 2 v' (acc++[(kk,vv)]).length (flatR (acc++[(kk,vv)]))):=Lib.hid (by
                    rw [flatR_snoc,List.length_append,← HEK.out.1,← HEK.out.2];exact hown')
                   have HBW:Hid (Below w.heap.size w w1):=Lib.hid (HBD.out.grown hgrow HBD.out.size (fun b hb => by
                    rcases HOWN.out.2 with ⟨rfl,_⟩ | ⟨g,cap,cur,rfl,hb2,_⟩
                    ·cases hb
                    ·cases hb;exact hb2))
                   clear hown' hgrow;simp only [List.getElem_toArray,List.getElem_cons_succ,List.getElem_cons_zero];simp only [List.setIfInBounds_toArray,List.set_cons_succ,List.set_cons_zero]
                   go_wp2_with fail
                   go_roundw
                   case rel => exact ⟨l.drop (M+1),acc++[(kk,vv)],rfl,HOW1,HST,Lib.hid (by have h1:=HSZ.out;have h2:=hlen.out;rw [List.length_append,List.length_drop];simp only [List.length_cons,List.length_nil];omega),HBW⟩
                   case measure => have h1:=HSZ.out;simp only [str_size,List.length_drop];omega
               ·have b61:(((X[i]).toNat:Int) == 61)=false:=by
                 have:¬ (X[i]).toNat=61:=fun e => g61 (UInt8.toNat_inj.1 e)
                 rw [beq_eq_false_iff_ne];omega
                have HNX:Hid (∀ j,j < i+1 → X.data.toList.getD j 0≠61):=Lib.hid (fun j hj => by
                 rcases Nat.lt_succ_iff_lt_or_eq.1 hj with h | rfl
                 ·exact hno.out j h
                 ·rw [← hx1.out];exact g61)
                clear g61
                go_wp2
                go_round
                case rel => exact ⟨i+1,by omega,rfl,by go_num,HNX⟩
                case measure => simp [RowKit.intOf];omega
              ·have HE:Hid (indexByte X.data.toList 61 < 1):=Lib.hid (index_not _ 61 (fun j hj => hno.out j (by rw [← size_of] at hj;omega)))
               have E:Hid (recsD 5 9 bs=([],5)):=Lib.hid (HG.out 5 (by exact HQ.out.1 HE.out))
               go_wp2
               go_ret2
               exact recsN_err 5 9 bs w _ 5 E.out hB.out
            ·have u3b:(((S[M]).toNat:Int) != 10)=true:=by
              have:¬ (S[M]).toNat=10:=fun e => u3 (UInt8.toNat_inj.1 e)
              simp;omega
             have HU3:Hid (l.getD (M+1 - 1) 0≠10):=Lib.hid (by rw [Nat.add_sub_cancel,HX10.out];exact u3)
             clear u3;have E:Hid (recsD 5 9 bs=([],5)):=Lib.hid (HG.out 5 (by exact HQ1.out (.inr (.inr HU3.out))))
             go_wp2
             go_ret2
             exact recsN_err 5 9 bs w _ 5 E.out hB.out
         ·have t5b:((C:Int) != 32)=true:=by simp;omega
          have HE5:Hid (l.getD k 0≠32):=Lib.hid (fun e => t5 (by have:=congrArg UInt8.toNat e;rw [HC.out] at this;rw [this];rfl))
          clear t5;have E:Hid (recsD 5 9 bs=([],5)):=Lib.hid (HG.out 5 (by unfold recStep;rw [HK.out,if_pos (.inr (.inr (.inr (.inr HE5.out))))]))
          go_wp2
          go_ret2
          exact recsN_err 5 9 bs w _ 5 E.out hB.out
    ·have HK:Hid (digN l=k):=Lib.hid (digN_is l k (by rw [← HSZ.out];exact hk) hd.out (.inl (by rw [← HSZ.out];omega)))
     have hks:¬ ((k:Int) < (S.size:Int)):=by omega
     by_cases t1:(k:Int) < 1
     ·have HE:=Lib.hid t1
      have E:Hid (recsD 5 9 bs=([],5)):=Lib.hid (HG.out 5 (by unfold recStep;rw [HK.out,if_pos (.inl (by omega))]))
      go_wp2
      go_ret2
      exact recsN_err 5 9 bs w _ 5 E.out hB.out
     ·by_cases t2:(7:Int) < (k:Int)
      ·have HE:=Lib.hid t2
       have E:Hid (recsD 5 9 bs=([],5)):=Lib.hid (HG.out 5 (by unfold recStep;rw [HK.out,if_pos (.inr (.inl (by omega)))]))
       go_wp2
       go_ret2
       exact recsN_err 5 9 bs w _ 5 E.out hB.out
      ·have hkk:Hid (digN l=l.length):=Lib.hid (by rw [HK.out,← HSZ.out];omega)
       by_cases t3:S[0]=48
       ·have t3b:(((S[0]).toNat:Int) == 48)=true:=by rw [t3];rfl
        clear t3;have E:Hid (recsD 5 9 bs=([],5)):=Lib.hid (HG.out 5 (by unfold recStep;rw [if_pos (.inr (.inr (.inr (.inl hkk.out))))]))
        go_wp2
        go_ret2
        exact recsN_err 5 9 bs w _ 5 E.out hB.out
       ·have t3b:(((S[0]).toNat:Int) == 48)=false:=by
         have:¬ (S[0]).toNat=48:=fun e => t3 (UInt8.toNat_inj.1 e)
         rw [beq_eq_false_iff_ne];omega
        have t4:((k:Int) == (S.size:Int))=true:=by simp;omega
        clear t3;have E:Hid (recsD 5 9 bs=([],5)):=Lib.hid (HG.out 5 (by unfold recStep;rw [if_pos (.inr (.inr (.inr (.inl hkk.out))))]))
        go_wp2
        go_ret2
        exact recsN_err 5 9 bs w _ 5 E.out hB.out
end Go.Proofs.YtdjedimjhogdoaaGreatDoor.Rec
end
section
namespace Go.Proofs.YtdjedimjhogdoaaGreatDoor.Rec
open Go.ChangeShapes Go.WideShapes Go.ChangeAt Go.RowKit Base Byt Txt Go.Lib
set_option linter.unusedVariables false
theorem flatR_app (a b:List (List UInt8 × List UInt8)):flatR (a++b)=flatR a++flatR b:=by simp [flatR]
theorem flatR_one (rs:List (List UInt8 × List UInt8)):∀ u ∈ flatR rs,u.oneCell'=true:=by
 intro u hu;obtain ⟨r,_,hr⟩:=List.mem_flatMap.1 hu;rcases List.mem_cons.1 hr with rfl | hr
 ·rfl
 ·rcases List.mem_cons.1 hr with rfl | hr
  ·rfl
  ·cases hr
end Go.Proofs.YtdjedimjhogdoaaGreatDoor.Rec
end
section
namespace Go.Proofs.YtdjedimjhogdoaaGreatDoor.Head
open Go.ChangeShapes Go.WideShapes Go.ChangeAt Go.RowKit Base Byt Txt Hp Go.Proofs.YtdjedimjhogdoaaGreatDoor.Mp Go.Lib
set_option linter.unusedVariables false
set_option maxRecDepth 100000
theorem slice_at (b o c l h:Nat) (hl:l≤h) (h5:h≤512) (hc:512≤c) (hl5:l < 512) (w:World) :
 (Instr.sliceAt 22 (.slice (some ⟨b,o,none⟩) 512 c) (some (.int .i64 (l:Int))) (some (.int .i64 (h:Int))) none).run Tryz.prog w=.ok (.slice (some ⟨b,o+l,none⟩) (h - l) (c - l)) w:=by
 have fl:=Tryz.underlying22;have h1:(l:Int)≤h:=by omega
 have h2:(h:Int)≤c:=by omega
 have h3:¬ c=l:=by omega
 simp [go_sem,Instr.sliceAt,Instr.slice,Instr.sliceBounds,Result.andThen,h1,h2,h3,Addr.add]
theorem slice_to (b o c h:Nat) (h5:h≤512) (hc:512≤c) (w:World) :
 (Instr.sliceAt 22 (.slice (some ⟨b,o,none⟩) 512 c) none (some (.int .i64 (h:Int))) none).run Tryz.prog w=.ok (.slice (some ⟨b,o,none⟩) h c) w:=by
 have fl:=Tryz.underlying22;have h2:(h:Int)≤c:=by omega
 simp [go_sem,Instr.sliceAt,Instr.slice,Instr.sliceBounds,Result.andThen,h2,Addr.add]
noncomputable def refOps:Array Oper:=regionAt Tryz.f33 9
def rV (S S1 S2:Value) (pt:Addr) (mg x0 x1:ByteArray) (gnu:Bool) (kd:Int) (g:Nat):Nat → Value
 | 0 => .string mg | 1 => .bool gnu | 2 => S | 3 => .pointer (some pt) | 4 => .int .u8 kd | 5 => S | 6 => S1 | 7 => .string x0 | 8 => S | 9 => S2 | 10 => .string x1
 | 11 => .agg #[.string x0,.string x1,.int .u8 kd,.int .i64 0,.int .i64 0,.int .i64 0,.int .i64 0,.int .i64 0,.bool gnu] | 12 => .pointer (some ⟨g,0,none⟩) | _ => undef
theorem ref_size:refOps.size=14:=rfl
theorem ref_apart:apartB refOps 118=true:=by kernel_rfl
theorem rdst0:dstAt refOps 0=some 43:=rfl
theorem rop0:∃ o,refOps[0]? = some o∧o.op=.move (.tmp 6)∧o.dst=some 43:=⟨_,rfl,rfl,rfl⟩
theorem rdst1:dstAt refOps 1=some 44:=rfl
theorem rop1:∃ o,refOps[1]? = some o∧o.op=.binOp .eql 9 (.tmp 43) (.const (.string ⟨#[117,115,116,97,114,32,32,0]⟩)) 9∧o.dst=some 44:=⟨_,rfl,rfl,rfl⟩
theorem rdst2:dstAt refOps 2=some 45:=rfl
theorem rop2:∃ o,refOps[2]? = some o∧o.op=.move (.tmp 0)∧o.dst=some 45:=⟨_,rfl,rfl,rfl⟩
theorem rdst3:dstAt refOps 3=some 46:=rfl
theorem rop3:∃ o,refOps[3]? = some o∧o.op=.indexAddr 22 (.tmp 45) (.const (.int .i64 156))∧o.dst=some 46:=⟨_,rfl,rfl,rfl⟩
theorem rdst4:dstAt refOps 4=some 47:=rfl
theorem rop4:∃ o,refOps[4]? = some o∧o.op=.load 5 (.tmp 46)∧o.dst=some 47:=⟨_,rfl,rfl,rfl⟩
theorem rdst5:dstAt refOps 5=some 48:=rfl
theorem rop5:∃ o,refOps[5]? = some o∧o.op=.move (.tmp 0)∧o.dst=some 48:=⟨_,rfl,rfl,rfl⟩
theorem rdst6:dstAt refOps 6=some 49:=rfl
theorem rop6:∃ o,refOps[6]? = some o∧o.op=.slice 22 (.tmp 48) none (some (.const (.int .i64 100))) none∧o.dst=some 49:=⟨_,rfl,rfl,rfl⟩
theorem rdst7:dstAt refOps 7=some 50:=rfl
theorem rop7:∃ o,refOps[7]? = some o∧o.op=.call { callee:=.value (.func 56),args:=#[.tmp 49],argTypes:=#[22] }∧o.dst=some 50:=⟨_,rfl,rfl,rfl⟩
theorem rdst8:dstAt refOps 8=some 51:=rfl
theorem rop8:∃ o,refOps[8]? = some o∧o.op=.move (.tmp 0)∧o.dst=some 51:=⟨_,rfl,rfl,rfl⟩
theorem rdst9:dstAt refOps 9=some 52:=rfl
theorem rop9:∃ o,refOps[9]? = some o∧o.op=.slice 22 (.tmp 51) (some (.const (.int .i64 157))) (some (.const (.int .i64 257))) none∧o.dst=some 52:=⟨_,rfl,rfl,rfl⟩
theorem rdst10:dstAt refOps 10=some 53:=rfl
theorem rop10:∃ o,refOps[10]? = some o∧o.op=.call { callee:=.value (.func 56),args:=#[.tmp 52],argTypes:=#[22] }∧o.dst=some 53:=⟨_,rfl,rfl,rfl⟩
theorem rdst11:dstAt refOps 11=some 54:=rfl
theorem rop11:∃ o,refOps[11]? = some o∧o.op=.build 57 #[(5,.tmp 44),(2,.tmp 47),(0,.tmp 50),(1,.tmp 53)]∧o.dst=some 54:=⟨_,rfl,rfl,rfl⟩
theorem rdst12:dstAt refOps 12=some 7:=rfl
theorem rop12:∃ o,refOps[12]? = some o∧o.op=.alloc 57∧o.dst=some 7:=⟨_,rfl,rfl,rfl⟩
theorem rdst13:dstAt refOps 13=none:=rfl
theorem rop13:∃ o,refOps[13]? = some o∧o.op=.store 57 (.tmp 7) (.tmp 54)∧o.dst=none:=⟨_,rfl,rfl,rfl⟩
theorem r_build_part (w:World) (n l:ByteArray) (k:Int) (g:Bool):(Instr.build 57 #[(5,.bool g),(2,.int .u8 k),(0,.string n),(1,.string l)]).run Tryz.prog w=.ok (.agg #[.string n,.string l,.int .u8 k,.int .i64 0,.int .i64 0,.int .i64 0,.int .i64 0,.int .i64 0,.bool g]) w:=by kernel_rfl
theorem alloc_head (w:World):(Instr.alloc 57 true (.tuple #[])).run Tryz.prog w=.ok (.pointer (some ⟨w.heap.size,0,none⟩)) (w.alloc (.cells zeroCs 57)):=by kernel_rfl
set_option maxHeartbeats 1000000 in
theorem ref_region {Q':Exit → Act → World → Prop} {a0:Act} {w3:World} (g:Nat) (S S1 S2:Value) (pt:Addr) (mg x0 x1:ByteArray) (gnu:Bool) (kd:Int)
 (hsz:118≤a0.tmps.size) (h0:a0.eval (.tmp 0)=S) (h6:a0.eval (.tmp 6)=.string mg) (hg:g=w3.heap.size)
 (hix:∀ w,(Instr.indexAt 22 S (.int .i64 156)).run Tryz.prog w=.ok (.pointer (some pt)) w)
 (hld:∀ w,Kept noneB w3 w → (Instr.loadAt 5 (.pointer (some pt))).run Tryz.prog w=.ok (.int .u8 kd) w)
 (hs1:∀ w,(Instr.sliceAt 22 S none (some (.int .i64 100)) none).run Tryz.prog w=.ok S1 w)
 (hs2:∀ w,(Instr.sliceAt 22 S (some (.int .i64 157)) (some (.int .i64 257)) none).run Tryz.prog w=.ok S2 w)
 (hu1:∀ w,Kept noneB w3 w → Calls Tryz.prog 56 #[S1] w fun e w' => e=.returned (.string x0)∧w=w')
 (hu2:∀ w,Kept noneB w3 w → Calls Tryz.prog 56 #[S2] w fun e w' => e=.returned (.string x1)∧w=w')
 (hgn:(mg.toList == [117,115,116,97,114,32,32,0])=gnu)
 (hQ:∀ w',w'.heap[g]? = some (.cells #[.string x0,.string x1,.int .u8 kd,.int .i64 0,.int .i64 0,.int .i64 0,.int .i64 0,.int .i64 0,.bool gnu] 57 (0,0)) → Kept noneB w3 w' → Q' .normal (((((((((((((a0.put (some 43) (.string mg)).put (some 44) (.bool gnu)).put (some 45) (S)).put (some 46) (.pointer (some pt))).put (some 47) (.int .u8 kd)).put (some 48) (S)).put (some 49) (S1)).put (some 50) (.string x0)).put (some 51) (S)).put (some 52) (S2)).put (some 53) (.string x1)).put (some 54) (.agg #[.string x0,.string x1,.int .u8 kd,.int .i64 0,.int .i64 0,.int .i64 0,.int .i64 0,.int .i64 0,.bool gnu])).put (some 7) (.pointer (some ⟨g,0,none⟩))) w') :
 wpAny Tryz.prog .any refOps Q' refOps.size (Array.replicate refOps.size false) a0 w3.drew:=by
 have no:∀ j,(Array.replicate refOps.size false).getD j false=false:=fun j => by
  rw [Array.getD_eq_getD_getElem?,Array.getElem?_replicate]
  split<;>rfl
 obtain ⟨C,hC⟩:∃ C:Array Value,C=#[.string x0,.string x1,.int .u8 kd,.int .i64 0,.int .i64 0,.int .i64 0,.int .i64 0,.int .i64 0,.bool gnu]:=⟨_,rfl⟩
 refine wpAny_vals (rV S S1 S2 pt mg x0 x1 gnu kd g) a0 (fun listed w => Kept noneB w3 w∧(listed.getD 12 false=false → w.heap.size=g)∧(listed.getD 12 false=true → w.heap[g]? = some (.cells (if listed.getD 13 false=true then C else zeroCs) 57 (0,0)))∧(listed.getD 13 false=true → listed.getD 12 false=true)) 118 ref_apart hsz ?_ ?_
  ⟨(Kept.refl _ w3).drew,fun _ => hg.symm,fun h => (by rw [no] at h;cases h),fun h => (by rw [no] at h;cases h)⟩
 ·intro listed a w j o h ho hun hdep
  have hlt:=lt_of_unlisted hun;obtain ⟨hk,hh1,hh2,hh3⟩:=h.wd
  have keep:j≠12 → j≠13 → Kept noneB w3 w∧((listed.setIfInBounds j true).getD 12 false=false → w.heap.size=g)∧((listed.setIfInBounds j true).getD 12 false=true → w.heap[g]? = some (.cells (if (listed.setIfInBounds j true).getD 13 false=true then C else zeroCs) 57 (0,0)))∧((listed.setIfInBounds j true).getD 13 false=true → (listed.setIfInBounds j true).getD 12 false=true):=fun hj hj' => by
   rw [listed_get hlt,if_neg (Ne.symm hj),listed_get hlt,if_neg (Ne.symm hj')];exact ⟨hk,hh1,hh2,hh3⟩
  have hj14:j < 14:=by
   have:=(Array.getElem?_eq_some_iff.1 ho).1
   rwa [ref_size] at this
  have same:∀ {j':Nat} {o':Oper},refOps[j']? = some o' → j=j' → o'=o:=fun {j' o'} h' e => by subst e;exact Option.some.inj (h'.symm.trans ho)
  rcases (show j=0 ∨ j=1 ∨ j=2 ∨ j=3 ∨ j=4 ∨ j=5 ∨ j=6 ∨ j=7 ∨ j=8 ∨ j=9 ∨ j=10 ∨ j=11 ∨ j=12 ∨ j=13 by omega) with rfl | rfl | rfl | rfl | rfl | rfl | rfl | rfl | rfl | rfl | rfl | rfl | rfl | rfl
  ·obtain ⟨o',ho',hop,hdst⟩:=rop0
   obtain rfl:=same ho' rfl;exact wp_move _ _ (Or.inl hop) ((h.old (t:=6) (by kernel_rfl)).trans h6) ⟨rfl,(keep (by decide) (by decide))⟩
  ·obtain ⟨o',ho',hop,hdst⟩:=rop1
   obtain rfl:=same ho' rfl;have e:a.eval (.tmp 43)=.string mg:=(h.get ho hdep (i:=0) (d:=43) (by kernel_rfl) rfl)
   refine wp_run (.bool gnu) ?_ ⟨rfl,(keep (by decide) (by decide))⟩
   have ec:a.eval (.const (.string ⟨#[117,115,116,97,114,32,32,0]⟩))=.string ⟨#[117,115,116,97,114,32,32,0]⟩:=rfl;generalize a.eval=ev at e ec ⊢;simp [go_sem,execOp,hop,e,ec,hgn]
  ·obtain ⟨o',ho',hop,hdst⟩:=rop2
   obtain rfl:=same ho' rfl;exact wp_move _ _ (Or.inl hop) ((h.old (t:=0) (by kernel_rfl)).trans h0) ⟨rfl,(keep (by decide) (by decide))⟩
  ·obtain ⟨o',ho',hop,hdst⟩:=rop3
   obtain rfl:=same ho' rfl;have e:a.eval (.tmp 45)=S:=(h.get ho hdep (i:=2) (d:=45) (by kernel_rfl) rfl)
   refine wp_run _ ?_ ⟨rfl,(keep (by decide) (by decide))⟩
   have q:=hix w;simp [execOp,hop,e,evalC,q,Result.andThen,rV]
  ·obtain ⟨o',ho',hop,hdst⟩:=rop4
   obtain rfl:=same ho' rfl;have e:a.eval (.tmp 46)=.pointer (some pt):=(h.get ho hdep (i:=3) (d:=46) (by kernel_rfl) rfl)
   refine wp_run _ ?_ ⟨rfl,(keep (by decide) (by decide))⟩
   have q:=hld w hk;simp [execOp,hop,e,q,Result.andThen,rV]
  ·obtain ⟨o',ho',hop,hdst⟩:=rop5
   obtain rfl:=same ho' rfl;exact wp_move _ _ (Or.inl hop) ((h.old (t:=0) (by kernel_rfl)).trans h0) ⟨rfl,(keep (by decide) (by decide))⟩
  ·obtain ⟨o',ho',hop,hdst⟩:=rop6
   obtain rfl:=same ho' rfl;have e:a.eval (.tmp 48)=S:=(h.get ho hdep (i:=5) (d:=48) (by kernel_rfl) rfl)
   refine wp_run _ ?_ ⟨rfl,(keep (by decide) (by decide))⟩
   have q:=hs1 w;simp [execOp,hop,e,evalC,q,Result.andThen,rV]
  ·obtain ⟨o',ho',hop,hdst⟩:=rop7
   obtain rfl:=same ho' rfl;have e0:a.eval (.tmp 49)=S1:=(h.get ho hdep (i:=6) (d:=49) (by kernel_rfl) rfl)
   exact wp_call _ _ _ hop #[S1] (by simp [e0]) (enters_of Tryz.func56 (by kernel_rfl) rfl) (.string x0) (fun w' => w=w') (hu1 w hk) (fun w' hw => by subst hw;exact ⟨rfl,(keep (by decide) (by decide))⟩)
  ·obtain ⟨o',ho',hop,hdst⟩:=rop8
   obtain rfl:=same ho' rfl;exact wp_move _ _ (Or.inl hop) ((h.old (t:=0) (by kernel_rfl)).trans h0) ⟨rfl,(keep (by decide) (by decide))⟩
  ·obtain ⟨o',ho',hop,hdst⟩:=rop9
   obtain rfl:=same ho' rfl;have e:a.eval (.tmp 51)=S:=(h.get ho hdep (i:=8) (d:=51) (by kernel_rfl) rfl)
   refine wp_run _ ?_ ⟨rfl,(keep (by decide) (by decide))⟩
   have q:=hs2 w;simp [execOp,hop,e,evalC,q,Result.andThen,rV]
  ·obtain ⟨o',ho',hop,hdst⟩:=rop10
   obtain rfl:=same ho' rfl;have e0:a.eval (.tmp 52)=S2:=(h.get ho hdep (i:=9) (d:=52) (by kernel_rfl) rfl)
   exact wp_call _ _ _ hop #[S2] (by simp [e0]) (enters_of Tryz.func56 (by kernel_rfl) rfl) (.string x1) (fun w' => w=w') (hu2 w hk) (fun w' hw => by subst hw;exact ⟨rfl,(keep (by decide) (by decide))⟩)
  ·obtain ⟨o',ho',hop,hdst⟩:=rop11
   obtain rfl:=same ho' rfl;have e0:a.eval (.tmp 44)=.bool gnu:=(h.get ho hdep (i:=1) (d:=44) (by kernel_rfl) rfl)
   have e1:a.eval (.tmp 47)=.int .u8 kd:=(h.get ho hdep (i:=4) (d:=47) (by kernel_rfl) rfl)
   have e2:a.eval (.tmp 50)=.string x0:=(h.get ho hdep (i:=7) (d:=50) (by kernel_rfl) rfl)
   have e3:a.eval (.tmp 53)=.string x1:=(h.get ho hdep (i:=10) (d:=53) (by kernel_rfl) rfl)
   refine wp_run _ ?_ ⟨rfl,(keep (by decide) (by decide))⟩
   have b:=r_build_part w x0 x1 kd gnu;simp [execOp,hop,e0,e1,e2,e3,b,Result.andThen,rV]
  ·obtain ⟨o',ho',hop,hdst⟩:=rop12
   obtain rfl:=same ho' rfl;have q:=alloc_head w;rw [hh1 (getD_flip hun)] at q
   have hno13:listed.getD 13 false=false:=by
    cases hx:listed.getD 13 false with
    | false => rfl
    | true =>
      have h1:=hh3 hx;rw [getD_flip hun] at h1
      cases h1
   have hr:(execOp a.eval o').run Tryz.prog w=.ok (.value (.pointer (some ⟨g,0,none⟩))) (w.alloc (.cells zeroCs 57)):=by simp [execOp,hop,q,Result.andThen]
   unfold Oper.wp;rw [hr,Oper.upon_value];refine ⟨rfl,hk.alloc _,fun hx => ?_,fun _ => ?_,fun _ => by rw [listed_get hlt,if_pos rfl]⟩
   ·rw [listed_get hlt,if_pos rfl] at hx
    cases hx
   ·rw [listed_get hlt,if_neg (show ¬ (13=12) by decide),hno13,if_neg (by decide),← hh1 (getD_flip hun)]
    exact heap_alloc_new w _
  ·obtain ⟨o',ho',hop,hdst⟩:=rop13
   obtain rfl:=same ho' rfl;have e0:a.eval (.tmp 7)=.pointer (some ⟨g,0,none⟩):=(h.get ho hdep (i:=12) (d:=7) (by kernel_rfl) rfl)
   have e1:a.eval (.tmp 54)=rV S S1 S2 pt mg x0 x1 gnu kd g 11:=(h.get ho hdep (i:=11) (d:=54) (by kernel_rfl) rfl)
   have l12:listed.getD 12 false=true:=dep_listed ho hdep (by kernel_rfl)
   have hz:=hh2 l12;rw [if_neg (by rw [getD_flip hun];decide)] at hz
   refine wp_store9 _ _ hop g e0 x0 x1 kd 0 0 0 0 0 gnu e1 hz (fun w' hw' hk' => ⟨rfl,?_,fun hx => ?_,fun _ => ?_,fun _ => by rw [listed_get hlt,if_neg (by decide)];exact l12⟩)
   ·exact hk.then hk' (fun i hi => Or.inl (by
     have h1:i=g:=hi;rw [h1,hg]
     exact Nat.le_refl _))
   ·rw [listed_get hlt,if_neg (by decide),l12] at hx
    cases hx
   ·rw [listed_get hlt,if_pos rfl,if_pos rfl,hC]
    exact hw'
 ·intro listed a w h hall
  have all:∀ j,j < 14 → listed.getD j false=true:=fun j hj => hall j (by rw [ref_size];exact hj)
  obtain ⟨hk,_,hh,_⟩:=h.wd;have hh:=hh (all 12 (by omega))
  rw [all 13 (by omega),if_pos rfl] at hh
  rw [hC] at hh;rw [done_putAll 118 ref_apart hsz h hall,ref_size];simp only [putAll,put_none,rdst0,rdst1,rdst2,rdst3,rdst4,rdst5,rdst6,rdst7,rdst8,rdst9,rdst10,rdst11,rdst12,rdst13];exact hQ w hh hk
noncomputable def refOps2:Array Oper:=regionAt Tryz.f33 16
def rV2 (S S1 S2 S3 S4 S5:Value) (g:Nat):Nat → Value
 | 0 => S | 1 => S1 | 2 => S | 3 => S2 | 4 => S | 5 => S3 | 6 => S | 7 => S4 | 8 => S | 9 => S5 | 10 => .slice (some ⟨g,0,none⟩) 5 5 | 11 => .slice (some ⟨g,0,none⟩) 5 5 | _ => undef
theorem ref2_size:refOps2.size=12:=rfl
theorem ref2_apart:apartB refOps2 118=true:=by kernel_rfl
theorem qdst0:dstAt refOps2 0=some 75:=rfl
theorem qop0:∃ o,refOps2[0]? = some o∧o.op=.move (.tmp 0)∧o.dst=some 75:=⟨_,rfl,rfl,rfl⟩
theorem qdst1:dstAt refOps2 1=some 76:=rfl
theorem qop1:∃ o,refOps2[1]? = some o∧o.op=.slice 22 (.tmp 75) (some (.const (.int .i64 100))) (some (.const (.int .i64 108))) none∧o.dst=some 76:=⟨_,rfl,rfl,rfl⟩
theorem qdst2:dstAt refOps2 2=some 77:=rfl
theorem qop2:∃ o,refOps2[2]? = some o∧o.op=.move (.tmp 0)∧o.dst=some 77:=⟨_,rfl,rfl,rfl⟩
theorem qdst3:dstAt refOps2 3=some 78:=rfl
theorem qop3:∃ o,refOps2[3]? = some o∧o.op=.slice 22 (.tmp 77) (some (.const (.int .i64 108))) (some (.const (.int .i64 116))) none∧o.dst=some 78:=⟨_,rfl,rfl,rfl⟩
theorem qdst4:dstAt refOps2 4=some 79:=rfl
theorem qop4:∃ o,refOps2[4]? = some o∧o.op=.move (.tmp 0)∧o.dst=some 79:=⟨_,rfl,rfl,rfl⟩
theorem qdst5:dstAt refOps2 5=some 80:=rfl
theorem qop5:∃ o,refOps2[5]? = some o∧o.op=.slice 22 (.tmp 79) (some (.const (.int .i64 116))) (some (.const (.int .i64 124))) none∧o.dst=some 80:=⟨_,rfl,rfl,rfl⟩
theorem qdst6:dstAt refOps2 6=some 81:=rfl
theorem qop6:∃ o,refOps2[6]? = some o∧o.op=.move (.tmp 0)∧o.dst=some 81:=⟨_,rfl,rfl,rfl⟩
theorem qdst7:dstAt refOps2 7=some 82:=rfl
theorem qop7:∃ o,refOps2[7]? = some o∧o.op=.slice 22 (.tmp 81) (some (.const (.int .i64 136))) (some (.const (.int .i64 148))) none∧o.dst=some 82:=⟨_,rfl,rfl,rfl⟩
theorem qdst8:dstAt refOps2 8=some 83:=rfl
theorem qop8:∃ o,refOps2[8]? = some o∧o.op=.move (.tmp 0)∧o.dst=some 83:=⟨_,rfl,rfl,rfl⟩
theorem qdst9:dstAt refOps2 9=some 84:=rfl
theorem qop9:∃ o,refOps2[9]? = some o∧o.op=.slice 22 (.tmp 83) (some (.const (.int .i64 124))) (some (.const (.int .i64 136))) none∧o.dst=some 84:=⟨_,rfl,rfl,rfl⟩
theorem qdst10:dstAt refOps2 10=some 85:=rfl
theorem qop10:∃ o,refOps2[10]? = some o∧o.op=.buildSlice 108 5 #[(0,.tmp 76),(1,.tmp 78),(2,.tmp 80),(3,.tmp 82),(4,.tmp 84)]∧o.dst=some 85:=⟨_,rfl,rfl,rfl⟩
theorem qdst11:dstAt refOps2 11=some 10:=rfl
theorem qop11:∃ o,refOps2[11]? = some o∧o.op=.assign (.tmp 85)∧o.dst=some 10:=⟨_,rfl,rfl,rfl⟩
theorem build5 (w:World) (p1 p2 p3 p4 p5:Option Addr) (n1 c1 n2 c2 n3 c3 n4 c4 n5 c5:Nat):(Instr.buildSlice 108 5 #[(0,.slice p1 n1 c1),(1,.slice p2 n2 c2),(2,.slice p3 n3 c3),(3,.slice p4 n4 c4),(4,.slice p5 n5 c5)]).run Tryz.prog w=.ok (.slice (some ⟨w.heap.size,0,none⟩) 5 5) (w.alloc (.cells #[.slice p1 n1 c1,.slice p2 n2 c2,.slice p3 n3 c3,.slice p4 n4 c4,.slice p5 n5 c5] 22)):=by kernel_rfl
set_option maxHeartbeats 1000000 in
theorem ref_region2 {Q':Exit → Act → World → Prop} {a0:Act} {w3:World} (g:Nat) (S S1 S2 S3 S4 S5:Value)
 (hsz:118≤a0.tmps.size) (h0:a0.eval (.tmp 0)=S) (hg:g=w3.heap.size)
 (hs1:∀ w,(Instr.sliceAt 22 S (some (.int .i64 100)) (some (.int .i64 108)) none).run Tryz.prog w=.ok S1 w)
 (hs2:∀ w,(Instr.sliceAt 22 S (some (.int .i64 108)) (some (.int .i64 116)) none).run Tryz.prog w=.ok S2 w)
 (hs3:∀ w,(Instr.sliceAt 22 S (some (.int .i64 116)) (some (.int .i64 124)) none).run Tryz.prog w=.ok S3 w)
 (hs4:∀ w,(Instr.sliceAt 22 S (some (.int .i64 136)) (some (.int .i64 148)) none).run Tryz.prog w=.ok S4 w)
 (hs5:∀ w,(Instr.sliceAt 22 S (some (.int .i64 124)) (some (.int .i64 136)) none).run Tryz.prog w=.ok S5 w)
 (hb:∀ w,(Instr.buildSlice 108 5 #[(0,S1),(1,S2),(2,S3),(3,S4),(4,S5)]).run Tryz.prog w=.ok (.slice (some ⟨w.heap.size,0,none⟩) 5 5) (w.alloc (.cells #[S1,S2,S3,S4,S5] 22)))
 (hQ:∀ w',w'.heap[g]? = some (.cells #[S1,S2,S3,S4,S5] 22 (0,0)) → Kept noneB w3 w' → Q' .normal ((((((((((((a0.put (some 75) (S)).put (some 76) (S1)).put (some 77) (S)).put (some 78) (S2)).put (some 79) (S)).put (some 80) (S3)).put (some 81) (S)).put (some 82) (S4)).put (some 83) (S)).put (some 84) (S5)).put (some 85) (.slice (some ⟨g,0,none⟩) 5 5)).put (some 10) (.slice (some ⟨g,0,none⟩) 5 5)) w') :
 wpAny Tryz.prog .any refOps2 Q' refOps2.size (Array.replicate refOps2.size false) a0 w3.drew:=by
 have no:∀ j,(Array.replicate refOps2.size false).getD j false=false:=fun j => by
  rw [Array.getD_eq_getD_getElem?,Array.getElem?_replicate]
  split<;>rfl
 obtain ⟨C,hC⟩:∃ C:Array Value,C=#[S1,S2,S3,S4,S5]:=⟨_,rfl⟩;rw [← hC] at hQ hb
 refine wpAny_vals (rV2 S S1 S2 S3 S4 S5 g) a0 (fun listed w => Kept noneB w3 w∧(listed.getD 10 false=false → w.heap.size=g)∧(listed.getD 10 false=true → w.heap[g]? = some (.cells C 22 (0,0)))) 118 ref2_apart hsz ?_ ?_
  ⟨(Kept.refl _ w3).drew,fun _ => hg.symm,fun h => (by rw [no] at h;cases h)⟩
 ·intro listed a w j o h ho hun hdep
  have hlt:=lt_of_unlisted hun;obtain ⟨hk,hh1,hh2⟩:=h.wd
  have keep:j≠10 → Kept noneB w3 w∧((listed.setIfInBounds j true).getD 10 false=false → w.heap.size=g)∧((listed.setIfInBounds j true).getD 10 false=true → w.heap[g]? = some (.cells C 22 (0,0))):=fun hj => by
   rw [listed_get hlt,if_neg (Ne.symm hj)];exact ⟨hk,hh1,hh2⟩
  have hj12:j < 12:=by
   have:=(Array.getElem?_eq_some_iff.1 ho).1
   rwa [ref2_size] at this
  have same:∀ {j':Nat} {o':Oper},refOps2[j']? = some o' → j=j' → o'=o:=fun {j' o'} h' e => by subst e;exact Option.some.inj (h'.symm.trans ho)
  rcases (show j=0 ∨ j=1 ∨ j=2 ∨ j=3 ∨ j=4 ∨ j=5 ∨ j=6 ∨ j=7 ∨ j=8 ∨ j=9 ∨ j=10 ∨ j=11 by omega) with rfl | rfl | rfl | rfl | rfl | rfl | rfl | rfl | rfl | rfl | rfl | rfl
  ·obtain ⟨o',ho',hop,hdst⟩:=qop0
   obtain rfl:=same ho' rfl;exact wp_move _ _ (Or.inl hop) ((h.old (t:=0) (by kernel_rfl)).trans h0) ⟨rfl,(keep (by decide))⟩
  ·obtain ⟨o',ho',hop,hdst⟩:=qop1
   obtain rfl:=same ho' rfl;have e:a.eval (.tmp 75)=S:=(h.get ho hdep (i:=0) (d:=75) (by kernel_rfl) rfl)
   refine wp_run _ ?_ ⟨rfl,(keep (by decide))⟩
   have q:=hs1 w;simp [execOp,hop,e,evalC,q,Result.andThen,rV2]
  ·obtain ⟨o',ho',hop,hdst⟩:=qop2
   obtain rfl:=same ho' rfl;exact wp_move _ _ (Or.inl hop) ((h.old (t:=0) (by kernel_rfl)).trans h0) ⟨rfl,(keep (by decide))⟩
  ·obtain ⟨o',ho',hop,hdst⟩:=qop3
   obtain rfl:=same ho' rfl;have e:a.eval (.tmp 77)=S:=(h.get ho hdep (i:=2) (d:=77) (by kernel_rfl) rfl)
   refine wp_run _ ?_ ⟨rfl,(keep (by decide))⟩
   have q:=hs2 w;simp [execOp,hop,e,evalC,q,Result.andThen,rV2]
  ·obtain ⟨o',ho',hop,hdst⟩:=qop4
   obtain rfl:=same ho' rfl;exact wp_move _ _ (Or.inl hop) ((h.old (t:=0) (by kernel_rfl)).trans h0) ⟨rfl,(keep (by decide))⟩
  ·obtain ⟨o',ho',hop,hdst⟩:=qop5
   obtain rfl:=same ho' rfl;have e:a.eval (.tmp 79)=S:=(h.get ho hdep (i:=4) (d:=79) (by kernel_rfl) rfl)
   refine wp_run _ ?_ ⟨rfl,(keep (by decide))⟩
   have q:=hs3 w;simp [execOp,hop,e,evalC,q,Result.andThen,rV2]
  ·obtain ⟨o',ho',hop,hdst⟩:=qop6
   obtain rfl:=same ho' rfl;exact wp_move _ _ (Or.inl hop) ((h.old (t:=0) (by kernel_rfl)).trans h0) ⟨rfl,(keep (by decide))⟩
  ·obtain ⟨o',ho',hop,hdst⟩:=qop7
   obtain rfl:=same ho' rfl;have e:a.eval (.tmp 81)=S:=(h.get ho hdep (i:=6) (d:=81) (by kernel_rfl) rfl)
   refine wp_run _ ?_ ⟨rfl,(keep (by decide))⟩
   have q:=hs4 w;simp [execOp,hop,e,evalC,q,Result.andThen,rV2]
  ·obtain ⟨o',ho',hop,hdst⟩:=qop8
   obtain rfl:=same ho' rfl;exact wp_move _ _ (Or.inl hop) ((h.old (t:=0) (by kernel_rfl)).trans h0) ⟨rfl,(keep (by decide))⟩
  ·obtain ⟨o',ho',hop,hdst⟩:=qop9
   obtain rfl:=same ho' rfl;have e:a.eval (.tmp 83)=S:=(h.get ho hdep (i:=8) (d:=83) (by kernel_rfl) rfl)
   refine wp_run _ ?_ ⟨rfl,(keep (by decide))⟩
   have q:=hs5 w;simp [execOp,hop,e,evalC,q,Result.andThen,rV2]
  ·obtain ⟨o',ho',hop,hdst⟩:=qop10
   obtain rfl:=same ho' rfl;have e0:a.eval (.tmp 76)=S1:=(h.get ho hdep (i:=1) (d:=76) (by kernel_rfl) rfl)
   have e1:a.eval (.tmp 78)=S2:=(h.get ho hdep (i:=3) (d:=78) (by kernel_rfl) rfl)
   have e2:a.eval (.tmp 80)=S3:=(h.get ho hdep (i:=5) (d:=80) (by kernel_rfl) rfl)
   have e3:a.eval (.tmp 82)=S4:=(h.get ho hdep (i:=7) (d:=82) (by kernel_rfl) rfl)
   have e4:a.eval (.tmp 84)=S5:=(h.get ho hdep (i:=9) (d:=84) (by kernel_rfl) rfl)
   have q:=hb w;rw [hh1 (getD_flip hun)] at q;have hr:(execOp a.eval o').run Tryz.prog w=.ok (.value (.slice (some ⟨g,0,none⟩) 5 5)) (w.alloc (.cells C 22)):=by simp [execOp,hop,e0,e1,e2,e3,e4,q,Result.andThen]
   unfold Oper.wp;rw [hr,Oper.upon_value];refine ⟨rfl,hk.alloc _,fun hx => ?_,fun _ => ?_⟩
   ·rw [listed_get hlt,if_pos rfl] at hx
    cases hx
   ·rw [← hh1 (getD_flip hun)]
    exact heap_alloc_new w _
  ·obtain ⟨o',ho',hop,hdst⟩:=qop11
   obtain rfl:=same ho' rfl;have e:a.eval (.tmp 85)=.slice (some ⟨g,0,none⟩) 5 5:=(h.get ho hdep (i:=10) (d:=85) (by kernel_rfl) rfl)
   exact wp_move _ _ (Or.inr hop) e ⟨rfl,(keep (by decide))⟩
 ·intro listed a w h hall
  have all:∀ j,j < 12 → listed.getD j false=true:=fun j hj => hall j (by rw [ref2_size];exact hj)
  obtain ⟨hk,_,hh⟩:=h.wd;have hh:=hh (all 10 (by omega))
  rw [done_putAll 118 ref2_apart hsz h hall,ref2_size];simp only [putAll,qdst0,qdst1,qdst2,qdst3,qdst4,qdst5,qdst6,qdst7,qdst8,qdst9,qdst10,qdst11];exact hQ w hh hk
end Go.Proofs.YtdjedimjhogdoaaGreatDoor.Head
end
