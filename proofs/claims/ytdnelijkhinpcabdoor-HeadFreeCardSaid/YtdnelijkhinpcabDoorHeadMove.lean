/- head.read, parts.block, parts.put: bytes between a block and its fields. -/
import Derived.Test.YtdnelijkhinpcabDoorHeadText
import Derived.Deep.RegionHeldLaw
namespace Go.Proofs.YtdnelijkhinpcabDoor.Head
open Go.ChangeShapes Go.WideShapes Go.ChangeAt Go.RowKit Go.Proofs.YtdnelijkhinpcabDoor.Base Go.Proofs.YtdnelijkhinpcabDoor.Byt Go.Proofs.YtdnelijkhinpcabDoor.Hp Go.Proofs.YtdnelijkhinpcabDoor.Mp Go.Lib
set_option linter.unusedVariables false
set_option maxRecDepth 100000

theorem iter_off {w : World} {B R g : Nat} {f : Nat → Option Value} {todo : Nat → Bool} {bs : List UInt8} (h : IterF w B R f todo) (hr : RowB w g bs) : g ≠ B ∧ g ≠ R := by
  obtain ⟨es, clock, since, seen, c0, hb, hs, h1, h2, hR, _⟩ := h
  unfold RowB at hr
  refine ⟨fun e => ?_, fun e => ?_⟩
  · rw [e, hb] at hr; cases hr
  · rw [e, hR] at hr; cases hr
theorem iter_ne {w : World} {B R : Nat} {f : Nat → Option Value} {todo : Nat → Bool} (h : IterF w B R f todo) (e : B = R) : False := by
  obtain ⟨es, clock, since, seen, c0, hb, hs, h1, h2, hR, _⟩ := h
  rw [← e, hb] at hR
  cases hR
/-- some fields are as b has them, the others as a -/
def mixO (todo : Nat → Bool) (a b : Nat → List UInt8) : Nat → List UInt8 := fun i => if todo i = true then a i else b i
theorem mix_fits {todo : Nat → Bool} {a b : Nat → List UInt8} (ha : Fits a) (hb : Fits b) : Fits (mixO todo a b) := fun i => by
  unfold mixO
  split
  · exact ha i
  · exact hb i
theorem mix_done {todo : Nat → Bool} {a b : Nat → List UInt8} (ha : Fits a) (hb : Fits b) (h : ∀ i, i < 11 → todo i = false) : mixO todo a b = b :=
  fits_ext (mix_fits ha hb) hb fun i hi => by unfold mixO; rw [if_neg (by simp [h i hi])]
theorem mix_step {todo : Nat → Bool} {a b : Nat → List UInt8} (j : Nat) : upd (mixO todo a b) j (b j) = mixO (fun z => todo z && z != j) a b := by
  funext i
  by_cases hi : i = j
  · subst hi
    rw [upd_same, mixO, if_neg (by simp)]
  · rw [upd_other _ _ hi, mixO, mixO]
    have : (i != j) = true := by simpa using hi
    simp [this]
theorem partF_val (r : Nat → Nat) : ∀ j v, partF r j = some v → v = partV r j := fun j v h => by
  unfold partF at h
  split at h
  · exact (Option.some.inj h).symm
  · cases h
theorem partF_lt {r : Nat → Nat} {j : Nat} {v : Value} (h : partF r j = some v) : j < 11 := by
  unfold partF at h
  split at h
  · assumption
  · cases h
theorem infoSz : (Tryd.prog.info? 5).map (·.size) = some 1 := by kernel_rfl
theorem putInto_all {old cs : List UInt8} (h : cs.length = old.length) : putInto old cs = cs := by
  simp [putInto, List.drop_eq_nil_of_le (show old.length ≤ cs.length by omega)]
set_option maxHeartbeats 1000000 in
theorem put_field (lo B : Nat) (r : Nat → Nat) (own : Nat → List UInt8) (i : Nat) (s : ByteArray) (w : World) (hi : i < 11) (hP : PartsAt w lo B r own) :
    Calls Tryd.prog 17 #[.map (some B), .int .i64 (i : Int), .string s] w fun e w' => e = .returned (.tuple #[]) ∧ PartsAt w' lo B r (upd own i (putInto (own i) (s.data.toList.take (wideF i)))) ∧ Kept (oneB (r i)) w w' ∧ w'.heap.size = w.heap.size := by
  have fl := field_own
  have lk : (Instr.lookup 44 (.map (some B)) (.int .i64 (i : Int)) false).run Tryd.prog w = .ok (.agg #[.int .i64 (atF i), .slice (some ⟨r i, 0, none⟩) (wideF i) (wideF i)]) w :=
    hP.map.look (P := Tryd.prog) Tryd.underlying44 Tryd.underlying47 (x := i) (v := partV r i) (by unfold partF; rw [if_pos hi])
  have hfit := hP.fit i
  have HP := Lib.hid hP
  obtain ⟨cs, hcs⟩ : ∃ cs, cs = s.data.toList.take (wideF i) := ⟨_, rfl⟩
  have hcl : cs.length ≤ wideF i := by rw [hcs, List.length_take]; omega
  have HC := Lib.hid hcs
  rw [← hcs]
  clear hP hcs
  go_enter Tryd.func17, Tryd.ntmps17
  go_wp2_with (first | (refine wpList_copyS rfl _ _ 27 9 rfl 5 Tryd.underlying27 infoSz (some ⟨r i, 0, none⟩) (wideF i) (wideF i) s rfl rfl (r i) 0 (own i) (HP.out.row i hi) cs HC.out (fun _ => rfl) (by rw [Nat.zero_add, hfit]; exact hcl) ?_; intro w1 hr hk hs) | go_in)
  refine bodyPost_end (results_none rfl _ _ _) rfl ?_
  refine ⟨rfl, HP.out.wrote hi hk (by rw [putInto_length (by rw [hfit]; exact hcl)]; exact hfit) ?_, hk, hs⟩
  rw [← splice_zero]
  exact hr.out
set_option maxHeartbeats 2000000 in
theorem read_any (p : Option Addr) (c : Nat) (bs : List UInt8) (w : World) (hn : bs.length = 512) (hc : 512 ≤ c) (hm : c ≤ maxLen) (h : BAt w p 512 bs) :
    Calls Tryd.prog 22 #[.slice p 512 c] w fun e w' => ∃ B r, e = .returned (.map (some B)) ∧ PartsAt w' w.heap.size B r (readO bs) ∧ Kept noneB w w' := by
  unfold maxLen at hm
  obtain ⟨b, o, rfl, hbw, _⟩ := h.cell (k := 0) (by omega)
  have H := Lib.hid h
  have HN := Lib.hid hn
  clear h hn
  go_enter Tryd.func22, Tryd.ntmps22
  go_wp2_with fail
  refine (blank_any w).mono ?_
  rintro e w1 ⟨B, r, rfl, hP, hk⟩
  have HP := Lib.hid hP
  have HK := Lib.hid hk
  clear hP hk
  obtain ⟨R, hR⟩ : ∃ R, R = w1.heap.size := ⟨_, rfl⟩
  go_wp2_with (first | (at_range; refine wpList_rangeF rfl _ rfl Tryd.underlying44 B HP.out.map (fun _ => true) (fun _ _ _ => rfl) rfl R hR ?_; intro w2 HI hk2 hs2) | go_in)
  have HP2 := Lib.hid (HP.out.kept0 hk2.out)
  have HK2 := Lib.hid (HK.out.trans hk2.out)
  have HRL : Hid (w.heap.size ≤ R) := Lib.hid (by rw [hR]; exact HK.out.size)
  clear hk2 hs2 hR
  try go_frame
  go_loopw [9] (fun _ wr => ∃ todo, Hid (IterF wr B R (partF r) todo) ∧ Hid (PartsAt wr w.heap.size B r (mixO todo zeroO (readO bs))) ∧ Hid (Kept noneB w wr)) (fun _ wr => wr.rangeLeft B R)
  case atStart => exact ⟨fun _ => true, HI, by
    have e : mixO (fun _ => true) zeroO (readO bs) = zeroO := by funext i; exact if_pos rfl
    rw [e]; exact HP2, HK2⟩
  case round =>
    obtain ⟨todo, hI, hP, hK⟩ := hrel
    go_wp2_with (at_next; refine wpList_nextF rfl _ rfl B R todo (partV r) (partF_val r) rfl hI.out ?_ ?_)
    · intro hd
      have hall : ∀ i, i < 11 → todo i = false := fun i hi => hd i (partV r i) (by unfold partF; rw [if_pos hi])
      have HD := Lib.hid (mix_done (todo := todo) zeroO_fits (readO_fits HN.out) hall)
      clear hd hall
      go_wp2
      go_ret
      refine ⟨B, r, rfl, ?_, hK.out⟩
      rw [← HD.out]
      exact hP.out
    · intro j w3 v hj htj HI3 HLT HK3 hs3 hen
      have hj := partF_lt hj
      have hen' : (Instr.entry (.pointer (some ⟨R, 0, none⟩))).run Tryd.prog w3 = .ok (.tuple #[.int .i64 (j : Int), .agg #[.int .i64 (atF j), .slice (some ⟨r j, 0, none⟩) (wideF j) (wideF j)]]) w3 := hen
      have hw := wide_pos hj
      have hin := field_in hj
      have HJ := Lib.hid hj
      clear hen
      go_wp2_with fail
      obtain ⟨w4, hw4⟩ : ∃ w4, w4 = w3.alloc (.cells #[.int .i64 (atF j), .slice (some ⟨r j, 0, none⟩) (wideF j) (wideF j)] 53) := ⟨_, rfl⟩
      have hk4 : Kept noneB w3 w4 := by rw [hw4]; exact (Kept.refl _ _).alloc _
      have h4b : w4.heap[wr.heap.size]? = some (.cells #[.int .i64 (atF j), .slice (some ⟨r j, 0, none⟩) (wideF j) (wideF j)] 53 (0, 0)) := by rw [hw4, ← hs3]; exact heap_alloc_new _ _
      rw [← hw4]
      have hc0 : w4.drew.cell? ⟨wr.heap.size, 0, none⟩ = some (.int .i64 (atF j)) := cellsAt (w := w4) h4b 0
      have hc1 : w4.drew.cell? ⟨wr.heap.size, 1, none⟩ = some (.slice (some ⟨r j, 0, none⟩) (wideF j) (wideF j)) := cellsAt (w := w4) h4b 1
      have hkR : Kept (oneB R) wr w4.drew := HK3.out.trans (hk4.drew.of_none _)
      have hoff := iter_off hI.out (hP.out.row j hj)
      have hP4 := hP.out.kept hkR (fun e => iter_ne hI.out e) (fun i hi e => (iter_off hI.out (hP.out.row i hi)).2 e)
      have hK4 := hK.out.then hkR (fun i hi => Or.inl (by
        have h1 : i = R := hi
        rw [h1]
        exact HRL.out))
      have hI4 := HI3.out.kept (hk4.drew) id id
      have hfl : (fieldB bs j).length = wideF j := fieldB_length HN.out hj
      have hrow := hP4.row j hj
      have hsrc : BAt w4.drew (some ⟨b, o + atF j, none⟩) (fieldB bs j).length (fieldB bs j) := by
        have h1 := (H.out.below (hK4.below (Nat.le_refl _) (fun k hk => hk.elim))).drop (k := atF j) (c := c) (by omega) (by omega) HN.out
        rw [if_neg (by omega)] at h1
        have h2 := h1.take (k := wideF j) (by omega)
        rw [hfl]
        simpa [add_plain, fieldB] using h2
      have hrow2 : ((mixO todo zeroO (readO bs)) j).length = wideF j := hP4.fit j
      have HP4 := Lib.hid hP4
      have HK4 := Lib.hid hK4
      have HI4 := Lib.hid hI4
      have HOFF := Lib.hid hoff
      have HROW := Lib.hid hrow
      have HSRC := Lib.hid hsrc
      have HFL := Lib.hid hfl
      have HRL2 := Lib.hid hrow2
      have HBLK := Lib.hid h4b
      have hrl : Hid (w4.drew.rangeLeft B R < wr.rangeLeft B R) := Lib.hid (by rw [hI4.2]; exact HLT.out)
      clear hkR hoff hP4 hK4 hI4 hfl hrow hsrc hrow2 h4b hk4 hw4 hen'
      go_region_held_law (fun w' => w'.cell? ⟨wr.heap.size, 0, none⟩ = some (.int .i64 (atF j)) ∧ w'.cell? ⟨wr.heap.size, 1, none⟩ = some (.slice (some ⟨r j, 0, none⟩) (wideF j) (wideF j))) (first | exact ⟨hc0, hc1⟩ | exact hc5)
        (first
          | (refine step_copyB rfl _ _ 27 27 rfl 5 Tryd.underlying27 infoSz (some ⟨r j, 0, none⟩) (some ⟨b, o + atF j, none⟩) (wideF j) (wideF j) (512 - atF j) (c - atF j) rfl rfl (r j) 0 (mixO todo zeroO (readO bs) j) HROW.out (fieldB bs j)
              (by rw [HFL.out]; exact (Nat.min_eq_right (by omega)).symm) (fun _ => rfl) HSRC.out (by rw [HFL.out, HRL2.out]; omega) ?_
             intro w5 hr5 hk5 hs5
             have hk5' := Lib.hid hk5
             have hc5 : w5.cell? ⟨wr.heap.size, 0, none⟩ = some (.int .i64 (atF j)) ∧ w5.cell? ⟨wr.heap.size, 1, none⟩ = some (.slice (some ⟨r j, 0, none⟩) (wideF j) (wideF j)) := by
               have h5 : w5.heap[wr.heap.size]? = _ := hk5.some_ (show w4.drew.heap[wr.heap.size]? = _ from HBLK.out) (fun e => by
                 have h1 : wr.heap.size = r j := e
                 have h2 := (hP.out.row j HJ.out).lt
                 omega)
               exact ⟨cellsAt h5 0, cellsAt h5 1⟩
             clear hk5))
      simp only [List.getElem_toArray, List.getElem_cons_succ, List.getElem_cons_zero]
      go_frame
      go_wp2
      go_roundw
      case rel =>
        have hk := hk5'.out
        have hlo := HP4.out.lo.2 j HJ.out
        refine ⟨fun z => todo z && z != j, Lib.hid (HI4.out.1.kept hk (fun e => HOFF.out.1 (Eq.symm e)) (fun e => HOFF.out.2 (Eq.symm e))).1, Lib.hid ?_, Lib.hid (HK4.out.then hk (fun i hi => Or.inl (by
          have h1 : i = r j := hi
          rw [h1]
          exact hlo)))⟩
        have hw := HP4.out.wrote HJ.out hk (l := fieldB bs j) HFL.out (by
          have h1 := hr5.out
          rwa [splice_zero, putInto_all (by rw [HFL.out, HRL2.out])] at h1)
        have e := mix_step (todo := todo) (a := zeroO) (b := readO bs) j
        rw [show readO bs j = fieldB bs j by unfold readO; rw [if_pos HJ.out]] at e
        rw [e] at hw
        exact hw
      case measure =>
        have hk := hk5'.out
        have h1 := (HI4.out.1.kept hk (fun e => HOFF.out.1 (Eq.symm e)) (fun e => HOFF.out.2 (Eq.symm e))).2
        have h2 := hrl.out
        omega
set_option maxHeartbeats 2000000 in
theorem block_any (lo B : Nat) (r : Nat → Nat) (own : Nat → List UInt8) (w : World) (hP0 : PartsAt w lo B r own) :
    Calls Tryd.prog 20 #[.map (some B)] w fun e w' => ∃ g, e = .returned (.slice (some ⟨g, 0, none⟩) 512 512) ∧ RowB w' g (blockA own) ∧ w.heap.size ≤ g ∧ Kept noneB w w' := by
  obtain ⟨i0, hi0, hz0, hz1, hz2⟩ := info_parts infoU8
  have HIN := Lib.hid hi0
  have HZ0 := Lib.hid hz0
  have HZ1 := Lib.hid hz1
  have HZ2 := Lib.hid hz2
  have HP0 := Lib.hid hP0
  have HLO : Hid (B < w.heap.size ∧ ∀ i, i < 11 → r i < w.heap.size) := Lib.hid ⟨hP0.map.lt, fun i hi => (hP0.row i hi).lt⟩
  clear hi0 hz0 hz1 hz2 hP0
  go_enter Tryd.func20, Tryd.ntmps20
  go_wp2_with (at_make; refine wpList_make_full _ rfl _ _ 27 rfl w.heap.size 5 i0 (.int .u8 0) 1 Tryd.underlying27 HIN.out HZ0.out HZ1.out .i64 .i64 _ _ 512 rfl rfl rfl rfl (by rw [HZ2.out]; omega) (by decide) (Nat.le_refl _) ?_)
  intro w1 hown hgrow
  have hrow1 := rowB_own hown
  rw [← blockA_zero] at hrow1
  have hk1 : Kept noneB w w1 := (Kept.refl noneB w).grown hgrow (fun k hk => by cases hk)
  obtain ⟨g, hg⟩ : ∃ g, g = w.heap.size := ⟨_, rfl⟩
  rw [← hg] at hrow1 ⊢
  have HP1 := Lib.hid (HP0.out.kept0 hk1)
  have HROW1 := Lib.hid hrow1
  have HK1 := Lib.hid hk1
  have HGE : Hid (w.heap.size ≤ g) := Lib.hid (by omega)
  clear hown hgrow hrow1 hk1
  obtain ⟨R, hR⟩ : ∃ R, R = w1.heap.size := ⟨_, rfl⟩
  go_wp2_with (first | (at_range; refine wpList_rangeF rfl _ rfl Tryd.underlying44 B HP1.out.map (fun _ => true) (fun _ _ _ => rfl) rfl R hR ?_; intro w2 HI hk2 hs2) | go_in)
  have HK2 := Lib.hid (HK1.out.trans hk2.out)
  have HP2 := Lib.hid (HP1.out.kept0 hk2.out)
  have HROW2 := Lib.hid (HROW1.out.kept hk2.out id)
  have HRL : Hid (w.heap.size ≤ R) := Lib.hid (by rw [hR]; exact HK1.out.size)
  clear hk2 hs2 hR hg
  try go_frame
  go_loopw [9] (fun _ wr => ∃ todo, Hid (IterF wr B R (partF r) todo) ∧ Hid (PartsAt wr lo B r own) ∧ Hid (RowB wr g (blockA (mixO todo zeroO own))) ∧ Hid (Kept noneB w wr)) (fun _ wr => wr.rangeLeft B R)
  case atStart => exact ⟨fun _ => true, HI, HP2, by
    have e : mixO (fun _ => true) zeroO own = zeroO := by funext i; exact if_pos rfl
    rw [e]; exact HROW2, HK2⟩
  case round =>
    obtain ⟨todo, hI, hP, hG, hK⟩ := hrel
    go_wp2_with (at_next; refine wpList_nextF rfl _ rfl B R todo (partV r) (partF_val r) rfl hI.out ?_ ?_)
    · intro hd
      have hall : ∀ i, i < 11 → todo i = false := fun i hi => hd i (partV r i) (by unfold partF; rw [if_pos hi])
      have HD := Lib.hid (mix_done (todo := todo) zeroO_fits hP.out.fit hall)
      clear hd hall
      go_wp2
      go_ret
      refine ⟨g, rfl, ?_, HGE.out, hK.out⟩
      rw [← HD.out]
      exact hG.out
    · intro j w3 v hj htj HI3 HLT HK3 hs3 hen
      have hj := partF_lt hj
      have hen' : (Instr.entry (.pointer (some ⟨R, 0, none⟩))).run Tryd.prog w3 = .ok (.tuple #[.int .i64 (j : Int), .agg #[.int .i64 (atF j), .slice (some ⟨r j, 0, none⟩) (wideF j) (wideF j)]]) w3 := hen
      have hw := wide_pos hj
      have hin := field_in hj
      have HJ := Lib.hid hj
      clear hen
      go_wp2_with fail
      obtain ⟨w4, hw4⟩ : ∃ w4, w4 = w3.alloc (.cells #[.int .i64 (atF j), .slice (some ⟨r j, 0, none⟩) (wideF j) (wideF j)] 53) := ⟨_, rfl⟩
      have hk4 : Kept noneB w3 w4 := by rw [hw4]; exact (Kept.refl _ _).alloc _
      have h4b : w4.heap[wr.heap.size]? = some (.cells #[.int .i64 (atF j), .slice (some ⟨r j, 0, none⟩) (wideF j) (wideF j)] 53 (0, 0)) := by rw [hw4, ← hs3]; exact heap_alloc_new _ _
      rw [← hw4]
      have hc0 : w4.drew.cell? ⟨wr.heap.size, 0, none⟩ = some (.int .i64 (atF j)) := cellsAt (w := w4) h4b 0
      have hc1 : w4.drew.cell? ⟨wr.heap.size, 1, none⟩ = some (.slice (some ⟨r j, 0, none⟩) (wideF j) (wideF j)) := cellsAt (w := w4) h4b 1
      have hkR : Kept (oneB R) wr w4.drew := HK3.out.trans (hk4.drew.of_none _)
      have hoff := iter_off hI.out hG.out
      have hP4 := hP.out.kept hkR (fun e => iter_ne hI.out e) (fun i hi e => (iter_off hI.out (hP.out.row i hi)).2 e)
      have hK4 := hK.out.then hkR (fun i hi => Or.inl (by
        have h1 : i = R := hi
        rw [h1]
        exact HRL.out))
      have hI4 := HI3.out.kept (hk4.drew) id id
      have hfl : (own j).length = wideF j := hP.out.fit j
      have hrow : RowB w4.drew g (blockA (mixO todo zeroO own)) := hG.out.kept hkR (fun e => hoff.2 e)
      have hsrc : BAt w4.drew (some ⟨r j, 0, none⟩) (own j).length (own j) := by
        rw [hfl]; exact hP4.bat hj
      have HP4 := Lib.hid hP4
      have HK4 := Lib.hid hK4
      have HI4 := Lib.hid hI4
      have HOFF := Lib.hid hoff
      have HROW := Lib.hid hrow
      have HSRC := Lib.hid hsrc
      have HFL := Lib.hid hfl
      have HBLK := Lib.hid h4b
      have HMF : Hid (Fits (mixO todo zeroO own)) := Lib.hid (mix_fits zeroO_fits hP.out.fit)
      have hrl : Hid (w4.drew.rangeLeft B R < wr.rangeLeft B R) := Lib.hid (by rw [hI4.2]; exact HLT.out)
      clear hkR hoff hP4 hK4 hI4 hfl hrow hsrc h4b hk4 hw4 hen'
      go_region_held_law (fun w' => w'.cell? ⟨wr.heap.size, 0, none⟩ = some (.int .i64 (atF j)) ∧ w'.cell? ⟨wr.heap.size, 1, none⟩ = some (.slice (some ⟨r j, 0, none⟩) (wideF j) (wideF j))) (first | exact ⟨hc0, hc1⟩ | exact hc5)
        (first
          | (refine step_copyB rfl _ _ 27 27 rfl 5 Tryd.underlying27 infoSz (some ⟨g, atF j, none⟩) (some ⟨r j, 0, none⟩) (512 - atF j) (512 - atF j) (wideF j) (wideF j) rfl rfl g (atF j) (blockA (mixO todo zeroO own)) HROW.out (own j)
              (by rw [HFL.out]; exact (Nat.min_eq_left (by omega)).symm) (fun _ => rfl) HSRC.out (by rw [HFL.out, blockA_length]; omega) ?_
             intro w5 hr5 hk5 hs5
             have hk5' := Lib.hid hk5
             have hc5 : w5.cell? ⟨wr.heap.size, 0, none⟩ = some (.int .i64 (atF j)) ∧ w5.cell? ⟨wr.heap.size, 1, none⟩ = some (.slice (some ⟨r j, 0, none⟩) (wideF j) (wideF j)) := by
               have h5 : w5.heap[wr.heap.size]? = _ := hk5.some_ (show w4.drew.heap[wr.heap.size]? = _ from HBLK.out) (fun e => by
                 have h1 : wr.heap.size = g := e
                 have h2 := hG.out.lt
                 omega)
               exact ⟨cellsAt h5 0, cellsAt h5 1⟩
             clear hk5))
      simp only [List.getElem_toArray, List.getElem_cons_succ, List.getElem_cons_zero]
      go_frame
      go_wp2
      go_roundw
      case rel =>
        have hk := hk5'.out
        refine ⟨fun z => todo z && z != j, Lib.hid (HI4.out.1.kept hk (fun e => HOFF.out.1 (Eq.symm e)) (fun e => HOFF.out.2 (Eq.symm e))).1, Lib.hid (HP4.out.kept hk (fun e => ?_) (fun i hi e => ?_)), Lib.hid ?_, Lib.hid (HK4.out.then hk (fun i hi => Or.inl (by
          have h1 : i = g := hi
          rw [h1]
          exact HGE.out)))⟩
        · have h1 : B = g := e
          have h2 := HLO.out.1
          have h3 := HGE.out
          omega
        · have h1 : r i = g := e
          have h2 := HLO.out.2 i hi
          have h3 := HGE.out
          omega
        · have h1 := hr5.out
          rw [splice_blockA HMF.out HJ.out (by rw [HFL.out]; exact Nat.le_refl _), putInto_all (by rw [HFL.out, HMF.out j]), mix_step] at h1
          exact h1
      case measure =>
        have hk := hk5'.out
        have h1 := (HI4.out.1.kept hk (fun e => HOFF.out.1 (Eq.symm e)) (fun e => HOFF.out.2 (Eq.symm e))).2
        have h2 := hrl.out
        omega
end Go.Proofs.YtdnelijkhinpcabDoor.Head
