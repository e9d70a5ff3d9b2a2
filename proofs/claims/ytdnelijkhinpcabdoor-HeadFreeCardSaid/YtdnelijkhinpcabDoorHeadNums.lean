/- head.numbersOf, parts.numbers, parts.putNumbers: the five numbers, in whatever order they come. -/
import Derived.Test.YtdnelijkhinpcabDoorHeadMove
import Derived.Test.YtdnelijkhinpcabDoorFieldLaws
import Derived.Carry
namespace Go.Proofs.YtdnelijkhinpcabDoor.Head
open Go.ChangeShapes Go.WideShapes Go.ChangeAt Go.RowKit Go.Proofs.YtdnelijkhinpcabDoor.Base Go.Proofs.YtdnelijkhinpcabDoor.Byt Go.Proofs.YtdnelijkhinpcabDoor.Hp Go.Proofs.YtdnelijkhinpcabDoor.Mp Go.Proofs.YtdnelijkhinpcabDoor.Fp Go.Proofs.YtdnelijkhinpcabDoor.Field Go.Lib
set_option linter.unusedVariables false
set_option maxRecDepth 100000

/-- five numbers by their fields -/
def numF (vals : Nat → Int) : Nat → Option Value := fun i => if 1 ≤ i ∧ i ≤ 5 then some (.int .i64 (vals i)) else none
theorem numF_val (vals : Nat → Int) : ∀ j v, numF vals j = some v → v = .int .i64 (vals j) := fun j v h => by
  unfold numF at h
  split at h
  · exact (Option.some.inj h).symm
  · cases h
theorem numF_lt {vals : Nat → Int} {j : Nat} {v : Value} (h : numF vals j = some v) : 1 ≤ j ∧ j ≤ 5 := by
  unfold numF at h
  split at h
  · assumption
  · cases h
theorem numF_at (vals : Nat → Int) {j : Nat} (h1 : 1 ≤ j) (h2 : j ≤ 5) : numF vals j = some (.int .i64 (vals j)) := by
  unfold numF
  rw [if_pos ⟨h1, h2⟩]
set_option maxHeartbeats 2000000 in
theorem numbersOf_any (n l : ByteArray) (k m u g t z : Int) (gnu : Bool) (vals : Nat → Int) (h1 : vals 1 = m) (h2 : vals 2 = u) (h3 : vals 3 = g) (h4 : vals 4 = z) (h5 : vals 5 = t) (w : World) :
    Calls Tryd.prog 32 #[.agg #[.string n, .string l, .int .u8 k, .int .i64 m, .int .i64 u, .int .i64 g, .int .i64 t, .int .i64 z, .bool gnu]] w fun e w' => ∃ N, e = .returned (.map (some N)) ∧ MapF w' N (numF vals) ∧ w.heap.size ≤ N ∧ Kept noneB w w' := by
  obtain ⟨O, hO⟩ : ∃ O, O = Obj.cells #[.string n, .string l, .int .u8 k, .int .i64 m, .int .i64 u, .int .i64 g, .int .i64 t, .int .i64 z, .bool gnu] 25 := ⟨_, rfl⟩
  have hm0 := mapF_made (w.alloc O)
  rw [World.size_alloc, hO] at hm0
  have HM0 := Lib.hid hm0
  have hb0 : ((w.alloc O).alloc (.map #[] 0)).heap[w.heap.size]? = some O := ((Kept.refl noneB (w.alloc O)).alloc (.map #[] 0)).some_ (heap_alloc_new w O) id
  have hk0 : Kept noneB w ((w.alloc O).alloc (.map #[] 0)) := ((Kept.refl noneB w).alloc O).alloc _
  rw [hO] at hb0 hk0
  have HB0 := Lib.hid hb0
  have HK0 := Lib.hid hk0
  clear hm0 hb0 hk0 hO
  have off : ¬ oneB (w.heap.size + 1) w.heap.size := fun e => by
    have : w.heap.size = w.heap.size + 1 := e
    omega
  have OFF := Lib.hid off
  have lo : ∀ i, oneB (w.heap.size + 1) i → w.heap.size ≤ i ∨ noneB i := fun i hi => Or.inl (by
    have : i = w.heap.size + 1 := hi
    omega)
  have LO := Lib.hid lo
  clear off lo
  have mm := @run_makeMap Tryd.prog
  go_enter Tryd.func32, Tryd.ntmps32
  go_wp2_with (refine wpList_insertF rfl _ _ _ (Or.inr rfl) Tryd.underlying54 Tryd.underlying47 (w.heap.size + 1) HM0.out rfl 1 rfl rfl (.int .i64 m) rfl ?_)
  intro w1 HM1 hk1 hs1
  have HB1 := Lib.hid (hk1.out.some_ HB0.out OFF.out)
  have HK1 := Lib.hid (HK0.out.then hk1.out LO.out)
  have c4 := cellsAt HB1.out 4
  clear hk1 hs1
  go_wp2_with (refine wpList_insertF rfl _ _ _ (Or.inr rfl) Tryd.underlying54 Tryd.underlying47 (w.heap.size + 1) HM1.out rfl 2 rfl rfl (.int .i64 u) rfl ?_)
  intro w2 HM2 hk2 hs2
  have HB2 := Lib.hid (hk2.out.some_ HB1.out OFF.out)
  have HK2 := Lib.hid (HK1.out.then hk2.out LO.out)
  have c5 := cellsAt HB2.out 5
  clear hk2 hs2 c4
  go_wp2_with (refine wpList_insertF rfl _ _ _ (Or.inr rfl) Tryd.underlying54 Tryd.underlying47 (w.heap.size + 1) HM2.out rfl 3 rfl rfl (.int .i64 g) rfl ?_)
  intro w3 HM3 hk3 hs3
  have HB3 := Lib.hid (hk3.out.some_ HB2.out OFF.out)
  have HK3 := Lib.hid (HK2.out.then hk3.out LO.out)
  have c6 := cellsAt HB3.out 6
  clear hk3 hs3 c5
  go_wp2_with (refine wpList_insertF rfl _ _ _ (Or.inr rfl) Tryd.underlying54 Tryd.underlying47 (w.heap.size + 1) HM3.out rfl 5 rfl rfl (.int .i64 t) rfl ?_)
  intro w4 HM4 hk4 hs4
  have HB4 := Lib.hid (hk4.out.some_ HB3.out OFF.out)
  have HK4 := Lib.hid (HK3.out.then hk4.out LO.out)
  have c7 := cellsAt HB4.out 7
  clear hk4 hs4 c6
  go_wp2_with (refine wpList_insertF rfl _ _ _ (Or.inr rfl) Tryd.underlying54 Tryd.underlying47 (w.heap.size + 1) HM4.out rfl 4 rfl rfl (.int .i64 z) rfl ?_)
  intro w5 HM5 hk5 hs5
  have HK5 := Lib.hid (HK4.out.then hk5.out LO.out)
  clear hk5 hs5 c7
  go_wp2
  go_ret
  refine ⟨_, rfl, ?_, by omega, HK5.out⟩
  have e : (numF vals) = fun y => if y = 4 then some (Value.int .i64 z) else if y = 5 then some (Value.int .i64 t) else if y = 3 then some (Value.int .i64 g) else if y = 2 then some (Value.int .i64 u) else if y = 1 then some (Value.int .i64 m) else none := by
    funext y
    unfold numF
    match y with
    | 0 => rfl
    | 1 => rw [h1]; rfl
    | 2 => rw [h2]; rfl
    | 3 => rw [h3]; rfl
    | 4 => rw [h4]; rfl
    | 5 => rw [h5]; rfl
    | y + 6 => rw [if_neg (by omega), if_neg (by omega), if_neg (by omega), if_neg (by omega), if_neg (by omega), if_neg (by omega)]
  rw [e]
  exact HM5.out

/-- do the five fields have numbers? -/
def numsO (own : Nat → List UInt8) : Bool := (List.range 5).all fun i => okI (parseF (own (i + 1)))
theorem numsO_iff {own : Nat → List UInt8} : numsO own = true ↔ ∀ i, 1 ≤ i → i ≤ 5 → okI (parseF (own i)) = true := by
  unfold numsO
  rw [List.all_eq_true]
  constructor
  · intro h i h1 h2
    have := h (i - 1) (List.mem_range.2 (by omega))
    rwa [show i - 1 + 1 = i by omega] at this
  · intro h i hi
    have := List.mem_range.1 hi
    exact h (i + 1) (by omega) (by omega)
def NumsPost (w : World) (own : Nat → List UInt8) (e : Ending) (w' : World) : Prop :=
  Kept noneB w w' ∧ ((numsO own = true ∧ ∃ Q, e = .returned (.tuple #[.map (some Q), .bool true]) ∧ MapF w' Q (numF fun i => valI (parseF (own i)))) ∨ (numsO own = false ∧ e = .returned (.tuple #[.map none, .bool false])))
set_option maxHeartbeats 2000000 in
theorem numbers_any (lo B : Nat) (r : Nat → Nat) (own : Nat → List UInt8) (w : World) (hP0 : PartsAt w lo B r own) :
    Calls Tryd.prog 24 #[.map (some B)] w (NumsPost w own) := by
  have fl := field_own
  have HP0 := Lib.hid hP0
  have hm0 := mapF_made w
  have HM0 := Lib.hid hm0
  have HK0 := Lib.hid ((Kept.refl noneB w).alloc (.map #[] 0))
  clear hP0 hm0
  have mm := @run_makeMap Tryd.prog
  go_enter Tryd.func24, Tryd.ntmps24
  go_wp2_with fail
  refine (numbersOf_any ⟨#[]⟩ ⟨#[]⟩ 0 0 0 0 0 0 false (fun _ => 0) rfl rfl rfl rfl rfl _).mono ?_
  rintro e w1 ⟨N, rfl, hN, hNl, hk1⟩
  have HN := Lib.hid hN
  have HNL : Hid (N ≠ w.heap.size) := Lib.hid (by rw [World.size_alloc] at hNl; omega)
  have HQ1 := Lib.hid (HM0.out.kept hk1 id)
  have HP1 := Lib.hid ((HP0.out.kept0 HK0.out).kept0 hk1)
  have HK1 := Lib.hid (HK0.out.trans hk1)
  clear hN hNl hk1
  obtain ⟨R, hR⟩ : ∃ R, R = w1.heap.size := ⟨_, rfl⟩
  go_wp2_with (first | (at_range; refine wpList_rangeF rfl _ rfl Tryd.underlying54 N HN.out (fun _ => true) (fun _ _ _ => rfl) rfl R hR ?_; intro w2 HI hk2 hs2) | go_in)
  have HK2 := Lib.hid (HK1.out.trans hk2.out)
  have HP2 := Lib.hid (HP1.out.kept0 hk2.out)
  have HQ2 := Lib.hid (HQ1.out.kept hk2.out id)
  have HRL : Hid (w.heap.size < R) := Lib.hid (by
    have := HQ1.out.lt
    omega)
  clear hk2 hs2 hR
  try go_frame
  go_loopw [12] (fun _ wr => ∃ todo, Hid (IterF wr N R (numF fun _ => 0) todo) ∧ Hid (PartsAt wr lo B r own) ∧ Hid (MapF wr w.heap.size (fun i => if todo i = true then none else numF (fun i => valI (parseF (own i))) i)) ∧ Hid (Kept noneB w wr) ∧ Hid (∀ i, 1 ≤ i → i ≤ 5 → todo i = false → okI (parseF (own i)) = true)) (fun _ wr => wr.rangeLeft N R)
  case atStart => exact ⟨fun _ => true, HI, HP2, by
    have e : (fun i => if true = true then none else numF (fun i => valI (parseF (own i))) i) = fun _ => (none : Option Value) := by funext i; rfl
    rw [e]; exact HQ2, HK2, Lib.hid (fun i _ _ h => by cases h)⟩
  case round =>
    obtain ⟨todo, hI, hP, hQ, hK, hD⟩ := hrel
    go_wp2_with (at_next; refine wpList_nextF rfl _ rfl N R todo (fun _ => .int .i64 0) (numF_val _) rfl hI.out ?_ ?_)
    · intro hd
      have hall : ∀ i, 1 ≤ i → i ≤ 5 → todo i = false := fun i h1 h2 => hd i (.int .i64 0) (numF_at _ h1 h2)
      have HE : Hid (numsO own = true ∧ (fun i => if todo i = true then none else numF (fun i => valI (parseF (own i))) i) = numF fun i => valI (parseF (own i))) := Lib.hid ⟨numsO_iff.2 fun i h1 h2 => hD.out i h1 h2 (hall i h1 h2), by
        funext i
        split
        · rename_i ht
          unfold numF
          rw [if_neg]
          rintro ⟨h1, h2⟩
          rw [hall i h1 h2] at ht
          cases ht
        · rfl⟩
      clear hd hall
      go_wp2
      go_ret2
      refine ⟨hK.out, Or.inl ⟨HE.out.1, _, rfl, ?_⟩⟩
      have h1 := hQ.out
      rw [HE.out.2] at h1
      exact h1
    · intro j w3 v hj htj HI3 HLT HK3 hs3 hen
      have hj := numF_lt hj
      obtain ⟨hj1, hj5⟩ := hj
      have hj11 : j < 11 := by omega
      have hP3 := hP.out.kept HK3.out (fun e => by
        have h1 := hP.out.map
        have h2 := hI.out
        obtain ⟨es, clock, hb, _⟩ := h1
        obtain ⟨_, _, _, _, _, _, _, _, _, hr, _⟩ := h2
        have e : B = R := e
        rw [← e, hb] at hr
        cases hr) (fun i hi e => (iter_off hI.out (hP.out.row i hi)).2 e)
      have hQ3 := hQ.out.kept HK3.out (fun e => by
        have e : w.heap.size = R := e
        have := HRL.out
        omega)
      have hK3 := hK.out.then HK3.out (fun i hi => Or.inl (by
        have h1 : i = R := hi
        have := HRL.out
        omega))
      have lk : (Instr.lookup 44 (.map (some B)) (.int .i64 (j : Int)) false).run Tryd.prog w3 = .ok (.agg #[.int .i64 (atF j), .slice (some ⟨r j, 0, none⟩) (wideF j) (wideF j)]) w3 :=
        hP3.map.look (P := Tryd.prog) Tryd.underlying44 Tryd.underlying47 (x := j) (v := partV r j) (by unfold partF; rw [if_pos hj11])
      have hw := wide_pos hj11
      have HJ := Lib.hid hj11
      have HP3 := Lib.hid hP3
      have HQ3 := Lib.hid hQ3
      have HKK := Lib.hid hK3
      have HW := Lib.hid hw
      have HTJ := Lib.hid htj
      have HJ1 : Hid (1 ≤ j ∧ j ≤ 5) := Lib.hid ⟨hj1, hj5⟩
      clear hP3 hQ3 hK3 hw htj
      go_wp2_with fail
      refine (parse_any _ (wideF j) (wideF j) (own j) w3 (HP3.out.fit j) (Nat.le_refl _) (by have := HW.out; unfold maxLen; omega) (HP3.out.bat HJ.out)).mono ?_
      rintro e w4 ⟨rfl, hb4⟩
      have hk4 : Kept noneB w3 w4 := Kept.of_below hb4 _
      have HP4 := Lib.hid (HP3.out.kept0 hk4)
      have HQ4 := Lib.hid (HQ3.out.kept hk4 id)
      have HK4 := Lib.hid (HKK.out.trans hk4)
      have hI4 := HI3.out.kept hk4 id id
      have HI4 := Lib.hid hI4.1
      have HL4 : Hid (w4.rangeLeft N R < wr.rangeLeft N R) := Lib.hid (by rw [hI4.2]; exact HLT.out)
      clear hb4 hk4 hI4 lk
      by_cases hok : okI (parseF (own j)) = true
      · have HOK := Lib.hid hok
        rw [hok]
        clear hok
        go_wp2_with (first | (at_mapUpdate; refine wpList_insertF rfl _ _ _ (Or.inl rfl) Tryd.underlying54 Tryd.underlying47 w.heap.size HQ4.out rfl j rfl (by rw [HTJ.out]; rfl) (.int .i64 (valI (parseF (own j)))) rfl ?_; intro w5 HQ5 hk5 hs5) | go_in)
        try go_frame
        try go_wp2
        go_roundw
        case rel =>
          have hI5 := HI4.out.kept hk5.out HNL.out (fun e => by
            have e : R = w.heap.size := e
            have := HRL.out
            omega)
          refine ⟨fun z => todo z && z != j, Lib.hid hI5.1, Lib.hid (HP4.out.kept hk5.out (fun e => ?_) (fun i hi e => ?_)), Lib.hid ?_, Lib.hid (HK4.out.then hk5.out (fun i hi => Or.inl (by
            have h1 : i = w.heap.size := hi
            omega))), Lib.hid (fun i h1 h2 ht => ?_)⟩
          · have e : B = w.heap.size := e
            have := HP0.out.map.lt
            omega
          · have e : r i = w.heap.size := e
            have := (HP0.out.row i hi).lt
            omega
          · have h1 := HQ5.out
            have e : (fun y => if y = j then some (Value.int .i64 (valI (parseF (own j)))) else if todo y = true then none else numF (fun i => valI (parseF (own i))) y) = fun i => if (todo i && i != j) = true then none else numF (fun i => valI (parseF (own i))) i := by
              funext y
              by_cases hy : y = j
              · subst hy
                rw [if_pos rfl, if_neg (by simp), numF_at _ HJ1.out.1 HJ1.out.2]
              · have h2 : (y != j) = true := by simpa using hy
                rw [if_neg hy, h2, Bool.and_true]
            rw [e] at h1
            exact h1
          · by_cases hij : i = j
            · rw [hij]; exact HOK.out
            · have h3 : (i != j) = true := by simpa using hij
              have ht : (todo i && i != j) = false := ht
              rw [h3, Bool.and_true] at ht
              exact hD.out i h1 h2 ht
        case measure =>
          have hI5 := HI4.out.kept hk5.out HNL.out (fun e => by
            have e : R = w.heap.size := e
            have := HRL.out
            omega)
          have h1 := HL4.out
          have h2 := hI5.2
          omega
      · have hok' : okI (parseF (own j)) = false := by simpa using hok
        have HE : Hid (numsO own = false) := Lib.hid (by
          cases hc : numsO own with
          | false => rfl
          | true => exact absurd (numsO_iff.1 hc j HJ1.out.1 HJ1.out.2) hok)
        rw [hok']
        clear hok hok'
        go_wp2
        go_ret2
        exact ⟨HK4.out, Or.inr ⟨HE.out, rfl⟩⟩

/-- the blocks of the fields' rows -/
def rowsB (r : Nat → Nat) : Nat → Prop := fun k => ∃ i, i < 11 ∧ k = r i
/-- the five fields have a head's numbers -/
def numO (h : HeadV) (own : Nat → List UInt8) : Nat → List UInt8 := fun i => if 1 ≤ i ∧ i ≤ 5 then numB h i else own i
def PutNumsPost (w : World) (lo B : Nat) (r : Nat → Nat) (h : HeadV) (own : Nat → List UInt8) (e : Ending) (w' : World) : Prop :=
  Kept (rowsB r) w w' ∧ ((numsOk h = true ∧ e = .returned (.bool true) ∧ PartsAt w' lo B r (numO h own)) ∨ (numsOk h = false ∧ e = .returned (.bool false)))
set_option maxHeartbeats 2000000 in
theorem putNumbers_any (h : HeadV) (hwf : ∀ i, (Lit.int .i64 (numH h i)).wf = true) (lo B : Nat) (r : Nat → Nat) (own : Nat → List UInt8) (w : World) (hP0 : PartsAt w lo B r own) (hz : ∀ i, 1 ≤ i → i ≤ 5 → own i = List.replicate (wideF i) 0) :
    Calls Tryd.prog 16 #[.map (some B), .agg #[.string (str h.name), .string (str h.link), .int .u8 (h.kind.toNat : Int), .int .i64 h.mode, .int .i64 h.uid, .int .i64 h.gid, .int .i64 h.time, .int .i64 h.size, .bool h.gnu]] w (PutNumsPost w lo B r h own) := by
  have fl := field_own
  have HP0 := Lib.hid hP0
  have HZ := Lib.hid hz
  have HWF := Lib.hid hwf
  have HK0 := Lib.hid ((Kept.refl noneB w).alloc (.cells #[.string (str h.name), .string (str h.link), .int .u8 (h.kind.toNat : Int), .int .i64 h.mode, .int .i64 h.uid, .int .i64 h.gid, .int .i64 h.time, .int .i64 h.size, .bool h.gnu] 25))
  clear hP0 hz hwf
  go_enter Tryd.func16, Tryd.ntmps16
  go_wp2_with fail
  refine (numbersOf_any _ _ _ _ _ _ _ _ _ (numH h) rfl rfl rfl rfl rfl _).mono ?_
  rintro e w1 ⟨N, rfl, hN, hNl, hk1⟩
  have HN := Lib.hid hN
  have HP1 := Lib.hid ((HP0.out.kept0 HK0.out).kept0 hk1)
  have HK1 := Lib.hid (HK0.out.trans hk1)
  clear hN hNl hk1
  obtain ⟨R, hR⟩ : ∃ R, R = w1.heap.size := ⟨_, rfl⟩
  go_wp2_with (first | (at_range; refine wpList_rangeF rfl _ rfl Tryd.underlying54 N HN.out (fun _ => true) (fun _ _ _ => rfl) rfl R hR ?_; intro w2 HI hk2 hs2) | go_in)
  have HK2 := Lib.hid ((HK1.out.trans hk2.out).of_none (rowsB r))
  have HP2 := Lib.hid (HP1.out.kept0 hk2.out)
  have HRL : Hid (w.heap.size ≤ R) := Lib.hid (by rw [hR]; exact HK1.out.size)
  clear hk2 hs2 hR
  try go_frame
  go_loopw [12] (fun _ wr => ∃ todo, Hid (IterF wr N R (numF (numH h)) todo) ∧ Hid (PartsAt wr lo B r (mixO todo own (numO h own))) ∧ Hid (Kept (rowsB r) w wr) ∧ Hid (∀ i, 1 ≤ i → i ≤ 5 → todo i = false → (putF (numH h i) (wideF i)).isSome = true)) (fun _ wr => wr.rangeLeft N R)
  case atStart => exact ⟨fun _ => true, HI, by
    have e : mixO (fun _ => true) own (numO h own) = own := by funext i; exact if_pos rfl
    rw [e]; exact HP2, HK2, Lib.hid (fun i _ _ h => by cases h)⟩
  case round =>
    obtain ⟨todo, hI, hP, hK, hD⟩ := hrel
    go_wp2_with (at_next; refine wpList_nextF rfl _ rfl N R todo (fun j => .int .i64 (numH h j)) (numF_val _) rfl hI.out ?_ ?_)
    · intro hd
      have hall : ∀ i, 1 ≤ i → i ≤ 5 → todo i = false := fun i h1 h2 => hd i _ (numF_at _ h1 h2)
      have HE : Hid (numsOk h = true ∧ mixO todo own (numO h own) = numO h own) := Lib.hid ⟨numsOk_iff.2 fun i h1 h2 => hD.out i h1 h2 (hall i h1 h2), by
        funext i
        unfold mixO
        split
        · rename_i ht
          unfold numO
          rw [if_neg]
          rintro ⟨h1, h2⟩
          rw [hall i h1 h2] at ht
          cases ht
        · rfl⟩
      clear hd hall
      go_wp2
      go_ret
      refine ⟨hK.out, Or.inl ⟨HE.out.1, rfl, ?_⟩⟩
      have h1 := hP.out
      rw [HE.out.2] at h1
      exact h1
    · intro j w3 v hj htj HI3 HLT HK3 hs3 hen
      have hj := numF_lt hj
      obtain ⟨hj1, hj5⟩ := hj
      have hj11 : j < 11 := by omega
      have hP3 := hP.out.kept HK3.out (fun e => by
        have h1 := hP.out.map
        have h2 := hI.out
        obtain ⟨es, clock, hb, _⟩ := h1
        obtain ⟨_, _, _, _, _, _, _, _, _, hr, _⟩ := h2
        have e : B = R := e
        rw [← e, hb] at hr
        cases hr) (fun i hi e => (iter_off hI.out (hP.out.row i hi)).2 e)
      have hK3 := hK.out.then HK3.out (fun i hi => Or.inl (by
        have h1 : i = R := hi
        have := HRL.out
        omega))
      have lk : (Instr.lookup 44 (.map (some B)) (.int .i64 (j : Int)) false).run Tryd.prog w3 = .ok (.agg #[.int .i64 (atF j), .slice (some ⟨r j, 0, none⟩) (wideF j) (wideF j)]) w3 :=
        hP3.map.look (P := Tryd.prog) Tryd.underlying44 Tryd.underlying47 (x := j) (v := partV r j) (by unfold partF; rw [if_pos hj11])
      have hw := wide_pos hj11
      have HJ := Lib.hid hj11
      have HP3 := Lib.hid hP3
      have HKK := Lib.hid hK3
      have HW := Lib.hid hw
      have HTJ := Lib.hid htj
      have HJ1 : Hid (1 ≤ j ∧ j ≤ 5) := Lib.hid ⟨hj1, hj5⟩
      have HROW3 := Lib.hid (iter_off (HI3.out) (HP3.out.row j hj11))
      clear hP3 hK3 hw htj
      go_wp2_with fail
      refine (put_any (numH h j) (wideF j) w3 (HWF.out j) (by
        have := HW.out
        exact WalkArith.wf_i64 (by omega))).mono ?_
      rintro e w4 ⟨hb4, (⟨l, v4, hl, rfl, hown⟩ | ⟨hl, rfl⟩)⟩
      · have hlen := putF_length hl
        obtain ⟨p4, c4, rfl, hc4, hm4, hbat, _⟩ := put_bat rfl hl hown
        have hk4 : Kept noneB w3 w4 := Kept.of_below hb4 _
        have HP4 := Lib.hid (HP3.out.kept0 hk4)
        have HK4 := Lib.hid (HKK.out.trans (hk4.of_none _))
        have hI4 := HI3.out.kept hk4 id id
        have HI4 := Lib.hid hI4.1
        have HL4 : Hid (w4.rangeLeft N R < wr.rangeLeft N R) := Lib.hid (by rw [hI4.2]; exact HLT.out)
        have hbl : (bytesOf l).length = wideF j := by rw [bytesOf_length]; omega
        have cs : (convert 27 9 (.slice p4 l.length c4)).run Tryd.prog w4 = .ok (.string (str (bytesOf l))) w4 := conv_at hbat (by rw [bytesOf_length]) _ _ _ Tryd.underlying27 Tryd.underlying5 Tryd.underlying9 c4
        have HB : Hid (numB h j = bytesOf l) := Lib.hid (numB_some hl)
        have HBL := Lib.hid hbl
        have HSO : Hid ((putF (numH h j) (wideF j)).isSome = true) := Lib.hid (by rw [hl]; rfl)
        clear hl hown hlen hc4 hm4 hbat hb4 hk4 hI4 lk hbl
        go_wp2_with fail
        refine (put_field lo B r _ j (str (bytesOf l)) w4 HJ.out HP4.out).mono ?_
        rintro e w5 ⟨rfl, hP5, hk5, hs5⟩
        have hold : (mixO todo own (numO h own) j).length = wideF j := HP4.out.fit j
        rw [str_data, List.take_of_length_le (by rw [HBL.out]; exact Nat.le_refl _), putInto_all (by rw [HBL.out, hold])] at hP5
        have e5 := mix_step (todo := todo) (a := own) (b := numO h own) j
        rw [show numO h own j = bytesOf l by unfold numO; rw [if_pos HJ1.out, HB.out]] at e5
        rw [e5] at hP5
        have HP5 := Lib.hid hP5
        have HK5 := Lib.hid hk5
        clear hP5 hk5 hs5 hold e5 cs
        go_wp2
        go_roundw
        case rel =>
          have hI5 := HI4.out.kept HK5.out (fun e => HROW3.out.1 (Eq.symm e)) (fun e => HROW3.out.2 (Eq.symm e))
          refine ⟨fun z => todo z && z != j, Lib.hid hI5.1, HP5, Lib.hid (HK4.out.trans (HK5.out.mono (fun k hk => ⟨j, HJ.out, hk⟩))), Lib.hid (fun i h1 h2 ht => ?_)⟩
          by_cases hij : i = j
          · rw [hij]; exact HSO.out
          · have h3 : (i != j) = true := by simpa using hij
            have ht : (todo i && i != j) = false := ht
            rw [h3, Bool.and_true] at ht
            exact hD.out i h1 h2 ht
        case measure =>
          have hI5 := HI4.out.kept HK5.out (fun e => HROW3.out.1 (Eq.symm e)) (fun e => HROW3.out.2 (Eq.symm e))
          have h1 := HL4.out
          have h2 := hI5.2
          omega
      · have HE : Hid (numsOk h = false) := Lib.hid (by
          cases hc : numsOk h with
          | false => rfl
          | true =>
            have := numsOk_iff.1 hc j HJ1.out.1 HJ1.out.2
            rw [hl] at this
            cases this)
        have HK4 := Lib.hid (HKK.out.trans (Kept.of_below hb4 _))
        clear hl hb4 lk
        go_wp2
        go_ret
        exact ⟨HK4.out, Or.inr ⟨HE.out, rfl⟩⟩
end Go.Proofs.YtdnelijkhinpcabDoor.Head
