/- Rows of bytes in blocks of their own; a block's fields in a map; a region whose operations come in whatever order. -/
import Derived.Test.YtdnelijkhinpcabDoorMapF
import Derived.Test.YtdnelijkhinpcabDoorHeadPlain
import Derived.Laws.MakeOwn
import Derived.Laws.CopyOwn
import Derived.RegionTactic
namespace Go.Proofs.YtdnelijkhinpcabDoor.Mp
open Go.ChangeShapes Go.WideShapes Go.ChangeAt Go.RowKit Go.MapKept Go.Proofs.YtdnelijkhinpcabDoor.Base Go.Proofs.YtdnelijkhinpcabDoor.Byt Go.Proofs.YtdnelijkhinpcabDoor.Hp Go.Lib
set_option linter.unusedVariables false

/-! ### a region in whatever order: by what holds throughout -/
def stillN (n : Nat) (listed : Array Bool) : Nat := ((List.range n).filter fun i => !listed.getD i true).length
theorem listed_get {listed : Array Bool} {i : Nat} (hi : i < listed.size) (j : Nat) (d : Bool) : (listed.setIfInBounds i true).getD j d = if j = i then true else listed.getD j d := by
  by_cases h : j = i
  · subst h; simp [hi]
  · simp [h, Array.getElem?_setIfInBounds_ne (Ne.symm h)]
theorem lt_of_unlisted {listed : Array Bool} {i : Nat} (h : listed.getD i true = false) : i < listed.size := by
  rcases Nat.lt_or_ge i listed.size with h' | h'
  · exact h'
  · simp [Array.getElem?_eq_none h'] at h
theorem wpAny_inv {P : Program} {md : Region.Mode} {ops : Array Oper} {Q : Exit → Act → World → Prop} (I : Array Bool → Act → World → Prop)
    (hstep : ∀ listed a w i, I listed a w → i ∈ Region.ready md ops listed → wpOp P ops Q i (I (listed.setIfInBounds i true)) a w)
    (hdone : ∀ listed a w, I listed a w → Region.ready md ops listed = [] → Q .normal a w) :
    ∀ (fuel : Nat) (listed : Array Bool) (a : Act) (w : World), stillN ops.size listed ≤ fuel → I listed a w → wpAny P md ops Q fuel listed a w := by
  intro fuel
  induction fuel with
  | zero =>
    intro listed a w hn hI
    have hr : Region.ready md ops listed = [] := by
      rw [List.eq_nil_iff_forall_not_mem]
      intro i hi
      have h1 := mem_ready.1 hi
      obtain ⟨o, ho, _⟩ := h1.2
      have h2 : i ∈ (List.range ops.size).filter fun i => !listed.getD i true := List.mem_filter.2 ⟨List.mem_range.2 (Array.getElem?_eq_some_iff.1 ho).1, by rw [h1.1]; rfl⟩
      have h3 : (List.range ops.size).filter (fun i => !listed.getD i true) = [] := List.eq_nil_of_length_eq_zero (by simpa [stillN] using hn)
      rw [h3] at h2
      cases h2
    exact ⟨hr, hdone _ _ _ hI hr⟩
  | succ fuel ih =>
    intro listed a w hn hI
    refine ⟨fun hr => hdone _ _ _ hI hr, fun i hi => ?_⟩
    refine wpOp_mono (fun a' w' h => ih _ _ _ ?_ h) (hstep _ _ _ _ hI hi)
    have h1 := mem_ready.1 hi
    obtain ⟨o, ho, _⟩ := h1.2
    have hlt := lt_of_unlisted h1.1
    have h2 : stillN ops.size (listed.setIfInBounds i true) < stillN ops.size listed := by
      unfold stillN
      refine filter_lt _ _ (fun x hx => ?_) i (by rw [h1.1]; rfl) (by rw [listed_get hlt, if_pos rfl]; rfl) _ (List.mem_range.2 (Array.getElem?_eq_some_iff.1 ho).1)
      rw [listed_get hlt] at hx
      split at hx
      · cases hx
      · exact hx
    omega
theorem all_listed {md : Region.Mode} {ops : Array Oper} {listed : Array Bool} (hs : listed.size = ops.size) (hd : ∀ i o, ops[i]? = some o → ∀ e ∈ o.after, Region.binds md e = true → e.on < i) (hr : Region.ready md ops listed = []) :
    ∀ n i, i < n → i < ops.size → listed.getD i false = true := by
  intro n
  induction n with
  | zero => intro i h; omega
  | succ n ih =>
    intro i h hi
    by_cases hin : i < n
    · exact ih i hin hi
    · obtain rfl : i = n := by omega
      cases hl : listed.getD i false with
      | true => rfl
      | false =>
        have h1 : listed.getD i true = false := by
          simp only [Array.getD_eq_getD_getElem?] at hl ⊢
          rw [Array.getElem?_eq_getElem (by omega)] at hl ⊢
          exact hl
        have : i ∈ Region.ready md ops listed := mem_ready.2 ⟨h1, ops[i], Array.getElem?_eq_getElem hi, fun e he hb => ih e.on (hd i _ (Array.getElem?_eq_getElem hi) e he hb) (by
          have := hd i _ (Array.getElem?_eq_getElem hi) e he hb
          omega)⟩
        rw [hr] at this
        cases this
theorem put_eval {a : Act} {d t : Nat} (v : Value) (hd : d < a.tmps.size) : (a.put (some d) v).eval (.tmp t) = if t = d then v else a.eval (.tmp t) := by
  show ((a.tmps.setIfInBounds d v).getD t undef) = _
  by_cases h : t = d
  · subst h; simp [hd]
  · rw [if_neg h]
    show _ = a.tmps.getD t undef
    simp [Array.getElem?_setIfInBounds_ne (Ne.symm h)]
theorem put_size (a : Act) (d : Option Nat) (v : Value) : (a.put d v).tmps.size = a.tmps.size := by
  cases d <;> simp [Act.put]
theorem put_defers (a : Act) (d : Option Nat) (v : Value) : (a.put d v).defers = a.defers := by
  cases d <;> rfl

theorem cellsAt {w : World} {g : Nat} {cs : Array Value} {e : TypeId} (h : w.heap[g]? = some (.cells cs e (0, 0))) (i : Nat) : w.cell? ⟨g, i, none⟩ = cs[i]? := by
  simp [World.cell?, h]
theorem cellsFrozen {w : World} {g : Nat} {cs : Array Value} {e : TypeId} (h : w.heap[g]? = some (.cells cs e (0, 0))) (i : Nat) : w.frozen? ⟨g, i, none⟩ = false := by
  simp [World.frozen?, h]
/-! ### rows of bytes -/
def bv (x : UInt8) : Value := .int .u8 (x.toNat : Int)
def RowB (w : World) (g : Nat) (bs : List UInt8) : Prop := w.heap[g]? = some (.cells (bs.map bv).toArray 5 (0, 0))
section
variable {w w' : World} {g : Nat} {bs : List UInt8}
theorem RowB.lt (h : RowB w g bs) : g < w.heap.size := (Array.getElem?_eq_some_iff.1 h).1
theorem RowB.kept {S : Nat → Prop} (h : RowB w g bs) (hk : Kept S w w') (hg : ¬ S g) : RowB w' g bs := hk.some_ h hg
theorem RowB.bat (h : RowB w g bs) : BAt w (some ⟨g, 0, none⟩) bs.length bs := fun _ => ⟨g, 0, rfl, fun i hi => by
  simp only [World.cell?, RowB] at h ⊢
  rw [h]
  simp [List.getD, hi, bv]⟩
theorem RowB.cell (h : RowB w g bs) (i : Nat) (hi : i < bs.length) : w.cell? ⟨g, i, none⟩ = some (.int .u8 ((bs.getD i 0).toNat : Int)) := by
  obtain ⟨b, o, he, hc⟩ := h.bat (by omega)
  cases he
  have := hc i hi
  rwa [Nat.zero_add] at this
theorem RowB.frozen (h : RowB w g bs) (i : Nat) : w.frozen? ⟨g, i, none⟩ = false := by
  simp only [World.frozen?, RowB] at h ⊢
  rw [h]
  rfl
theorem RowB.set (h : RowB w g bs) (i : Nat) (x : UInt8) : RowB (w.setCell ⟨g, i, none⟩ (.int .u8 (x.toNat : Int))) g (bs.set i x) := by
  unfold RowB at h ⊢
  rw [setCell_eq_setRow w g i _ _ _ _ h]
  rw [setRow_heap w g _ _ _ _ h]
  congr 2
  apply Array.toList_inj.1
  simp [List.map_set, bv]
theorem made_row (n : Nat) : madeCells #[Value.int .u8 0] n = ((List.replicate n (0 : UInt8)).map bv).toArray := by
  apply Array.toList_inj.1
  rw [toList_madeCells_one, List.map_replicate]
  rfl
theorem rowB_made (w : World) (n : Nat) : RowB (w.alloc (.cells (madeCells #[Value.int .u8 0] n) 5)) w.heap.size (List.replicate n 0) := by
  unfold RowB
  rw [made_row]
  exact heap_alloc_new w _
/-- a row that came by 'make' of the walk's law -/
theorem rowB_own {B n : Nat} (h : w.ownsRow B 5 1 (.slice (some ⟨g, 0, none⟩) n n) n (madeCells (Value.int .u8 0).cells (n * 1)).toList) : RowB w g (List.replicate n 0) := by
  rcases h.2 with ⟨h1, _⟩ | ⟨g', cap, cur, he, _, hb, _, _, hs, ht⟩
  · cases h1
  · cases he
    unfold RowB
    rw [hb]
    congr 2
    rw [← made_row]
    apply Array.toList_inj.1
    rw [List.take_of_length_le (by simp [hs])] at ht
    rw [ht, Nat.mul_one]
    rfl
end
/-- the run of copy between slices of bytes -/
theorem run_copyB {P : Program} {w : World} (dT sT ty elem : TypeId) (hu : P.underlying dT = some (.slice elem)) (hsz : (P.info? elem).map (·.size) = some 1) (dp sp : Option Addr) (dLen dCap sLen sCap : Nat)
    (g off : Nat) (bs : List UInt8) (hg : RowB w g bs) (cs : List UInt8) (hn : cs.length = Nat.min sLen dLen) (hpos : 0 < cs.length → dp = some ⟨g, off, none⟩) (hsrc : BAt w sp cs.length cs) (hfit : off + cs.length ≤ bs.length) :
    ∃ w', (Builtin.copy_ #[dT, sT] ty #[.slice dp dLen dCap, .slice sp sLen sCap]).run P w = .ok (goInt cs.length) w' ∧ RowB w' g (splice bs off cs) ∧ Kept (oneB g) w w' ∧ w'.heap.size = w.heap.size := by
  by_cases h0 : cs.length = 0
  · obtain rfl : cs = [] := List.eq_nil_of_length_eq_zero h0
    exact ⟨w, run_copy_none (P := P) w dT sT ty elem dp sp dLen dCap sLen sCap hu hsz (by simpa using hn.symm), by simpa [splice] using hg, Kept.refl _ _, rfl⟩
  · obtain rfl := hpos (by omega)
    obtain ⟨b, o, rfl, hc⟩ := hsrc (by omega)
    have hr := run_copy_row (P := P) w dT sT ty elem g off dLen dCap ⟨b, o, none⟩ sLen sCap _ _ (cs.map bv) hu hsz hg (by simpa using hn) (fun j v hj => by
      have hj1 : j < cs.length := by simpa using (List.getElem?_eq_some_iff.1 hj).1
      rw [add_plain, hc j hj1]
      rw [List.getElem?_map, List.getElem?_eq_getElem hj1] at hj
      rw [← hj]
      simp [List.getD, hj1, bv]) (by simpa using hfit) (fun v hv => by
      obtain ⟨x, _, rfl⟩ := List.mem_map.1 hv
      rfl)
    have e : ((bs.map bv).toArray.toList.take off ++ cs.map bv ++ (bs.map bv).toArray.toList.drop (off + (cs.map bv).length)).toArray = ((splice bs off cs).map bv).toArray := by
      simp [splice, List.map_take, List.map_drop]
    rw [e, List.length_map] at hr
    exact ⟨w.setRow g ((splice bs off cs).map bv).toArray, hr, setRow_heap w g _ _ _ _ hg, ⟨rfl, rfl, rfl, by simp [World.setRow], fun k hk hn => setRow_other w g k _ hn⟩, by simp [World.setRow]⟩
theorem run_copyS {P : Program} {w : World} (dT sT ty elem : TypeId) (hu : P.underlying dT = some (.slice elem)) (hsz : (P.info? elem).map (·.size) = some 1) (dp : Option Addr) (dLen dCap : Nat) (s : ByteArray)
    (g off : Nat) (bs : List UInt8) (hg : RowB w g bs) (cs : List UInt8) (hn : cs = s.data.toList.take dLen) (hpos : 0 < cs.length → dp = some ⟨g, off, none⟩) (hfit : off + cs.length ≤ bs.length) :
    ∃ w', (Builtin.copy_ #[dT, sT] ty #[.slice dp dLen dCap, .string s]).run P w = .ok (goInt cs.length) w' ∧ RowB w' g (splice bs off cs) ∧ Kept (oneB g) w w' ∧ w'.heap.size = w.heap.size := by
  have hsz' : s.data.toList.length = s.size := by simp
  have hl' : cs.length = min s.size dLen := by
    rw [hn, List.length_take]
    omega
  have hl : cs.length = Nat.min s.size dLen := hl'
  have hcs : ((s.data.toList.map fun x => Value.int .u8 (x.toNat : Int)).take (Nat.min s.size dLen)) = cs.map bv := by
    rw [← List.map_take, hn]
    show (s.data.toList.take (min s.size dLen)).map _ = _
    by_cases h : s.size ≤ dLen
    · rw [Nat.min_eq_left h, List.take_of_length_le (by omega), List.take_of_length_le (by omega)]
      rfl
    · rw [Nat.min_eq_right (by omega)]
      rfl
  obtain ⟨i, hi⟩ : ∃ i, P.info? elem = some i := by
    cases h : P.info? elem with
    | none => rw [h] at hsz; cases hsz
    | some i => exact ⟨i, rfl⟩
  by_cases h0 : cs.length = 0
  · obtain rfl : cs = [] := List.eq_nil_of_length_eq_zero h0
    refine ⟨w, ?_, by simpa [splice] using hg, Kept.refl _ _, rfl⟩
    have h1 : Nat.min s.size dLen = 0 := by simpa using hl.symm
    cases dp with
    | none => simp [Builtin.copy_, run_underlying hu, Builtin.lenOf, Builtin.firstCells, sizeOf, typeInfo, hi, h1]
    | some a => simp [Builtin.copy_, run_underlying hu, Builtin.lenOf, Builtin.firstCells, sizeOf, typeInfo, hi, h1, storeCells]
  · obtain rfl := hpos (by omega)
    have hst := run_storeCells_at P g off _ (cs.map bv) 0 _ w hg (by simpa using hfit) (fun v hv => by
      obtain ⟨x, _, rfl⟩ := List.mem_map.1 hv
      rfl)
    have e : ((bs.map bv).toArray.toList.take (off + 0) ++ cs.map bv ++ (bs.map bv).toArray.toList.drop (off + 0 + (cs.map bv).length)).toArray = ((splice bs off cs).map bv).toArray := by
      simp [splice, List.map_take, List.map_drop]
    rw [e] at hst
    refine ⟨w.setRow g ((splice bs off cs).map bv).toArray, ?_, setRow_heap w g _ _ _ _ hg, ⟨rfl, rfl, rfl, by simp [World.setRow], fun k hk hn => setRow_other w g k _ hn⟩, by simp [World.setRow]⟩
    simp [Builtin.copy_, run_underlying hu, Builtin.lenOf, Builtin.firstCells, sizeOf, typeInfo, hi, hcs, hst, hl]
section
variable {P : Program} {w : World} {ops : Array Oper} {rest : List Oper} {o : Oper} {a : Act} {Q : Exit → Act → World → Prop}
theorem wpList_copyB (hgd : o.guard = none) (d s : Operand) (dT sT : TypeId) (ho : o.op = .call { callee := .builtin .copy, args := #[d, s], argTypes := #[dT, sT] }) (elem : TypeId) (hu : P.underlying dT = some (.slice elem)) (hsz : (P.info? elem).map (·.size) = some 1)
    (dp sp : Option Addr) (dLen dCap sLen sCap : Nat) (hd : a.eval d = .slice dp dLen dCap) (hs : a.eval s = .slice sp sLen sCap)
    (g off : Nat) (bs : List UInt8) (hg : RowB w g bs) (cs : List UInt8) (hn : cs.length = Nat.min sLen dLen) (hpos : 0 < cs.length → dp = some ⟨g, off, none⟩) (hsrc : BAt w sp cs.length cs) (hfit : off + cs.length ≤ bs.length)
    (h : ∀ w', Hid (RowB w' g (splice bs off cs)) → Kept (oneB g) w w' → w'.heap.size = w.heap.size → wpList P ops Q rest (a.put o.dst (goInt cs.length)) w') : wpList P ops Q (o :: rest) a w := by
  refine wpList_plain hgd fun K hK => ?_
  obtain ⟨w', hrun, h1, h2, h3⟩ := run_copyB (P := P) dT sT o.type elem hu hsz dp sp dLen dCap sLen sCap g off bs hg cs hn hpos hsrc hfit
  unfold Oper.wp
  simp [execOp, ho, resolve, invoke, builtin, hd, hs, hrun, Result.andThen]
  exact hK _ _ (h w' (Lib.hid h1) h2 h3)
theorem wpList_copyS (hgd : o.guard = none) (d s : Operand) (dT sT : TypeId) (ho : o.op = .call { callee := .builtin .copy, args := #[d, s], argTypes := #[dT, sT] }) (elem : TypeId) (hu : P.underlying dT = some (.slice elem)) (hsz : (P.info? elem).map (·.size) = some 1)
    (dp : Option Addr) (dLen dCap : Nat) (str : ByteArray) (hd : a.eval d = .slice dp dLen dCap) (hs : a.eval s = .string str)
    (g off : Nat) (bs : List UInt8) (hg : RowB w g bs) (cs : List UInt8) (hn : cs = str.data.toList.take dLen) (hpos : 0 < cs.length → dp = some ⟨g, off, none⟩) (hfit : off + cs.length ≤ bs.length)
    (h : ∀ w', Hid (RowB w' g (splice bs off cs)) → Kept (oneB g) w w' → w'.heap.size = w.heap.size → wpList P ops Q rest (a.put o.dst (goInt cs.length)) w') : wpList P ops Q (o :: rest) a w := by
  refine wpList_plain hgd fun K hK => ?_
  obtain ⟨w', hrun, h1, h2, h3⟩ := run_copyS (P := P) dT sT o.type elem hu hsz dp dLen dCap str g off bs hg cs hn hpos hfit
  unfold Oper.wp
  simp [execOp, ho, resolve, invoke, builtin, hd, hs, hrun, Result.andThen]
  exact hK _ _ (h w' (Lib.hid h1) h2 h3)
/-- the same as one step of a region that draws its order -/
theorem step_copyB {K : Act → World → Prop} {E : Prop} (hgd : o.guard = none) (d s : Operand) (dT sT : TypeId) (ho : o.op = .call { callee := .builtin .copy, args := #[d, s], argTypes := #[dT, sT] }) (elem : TypeId) (hu : P.underlying dT = some (.slice elem)) (hsz : (P.info? elem).map (·.size) = some 1)
    (dp sp : Option Addr) (dLen dCap sLen sCap : Nat) (hd : a.eval d = .slice dp dLen dCap) (hs : a.eval s = .slice sp sLen sCap)
    (g off : Nat) (bs : List UInt8) (hg : RowB w g bs) (cs : List UInt8) (hn : cs.length = Nat.min sLen dLen) (hpos : 0 < cs.length → dp = some ⟨g, off, none⟩) (hsrc : BAt w sp cs.length cs) (hfit : off + cs.length ≤ bs.length)
    (h : ∀ w', Hid (RowB w' g (splice bs off cs)) → Kept (oneB g) w w' → w'.heap.size = w.heap.size → K (a.put o.dst (goInt cs.length)) w') :
    if Region.wanted o (yielded ops a.tmps) = true then Oper.wp P o a w K Q else E := by
  have hw : Region.wanted o (yielded ops a.tmps) = true := by simp [Region.wanted, hgd]
  rw [if_pos hw]
  obtain ⟨w', hrun, h1, h2, h3⟩ := run_copyB (P := P) dT sT o.type elem hu hsz dp sp dLen dCap sLen sCap g off bs hg cs hn hpos hsrc hfit
  unfold Oper.wp
  simp [execOp, ho, resolve, invoke, builtin, hd, hs, hrun, Result.andThen]
  exact h w' (Lib.hid h1) h2 h3
theorem step_copyS {K : Act → World → Prop} {E : Prop} (hgd : o.guard = none) (d s : Operand) (dT sT : TypeId) (ho : o.op = .call { callee := .builtin .copy, args := #[d, s], argTypes := #[dT, sT] }) (elem : TypeId) (hu : P.underlying dT = some (.slice elem)) (hsz : (P.info? elem).map (·.size) = some 1)
    (dp : Option Addr) (dLen dCap : Nat) (str : ByteArray) (hd : a.eval d = .slice dp dLen dCap) (hs : a.eval s = .string str)
    (g off : Nat) (bs : List UInt8) (hg : RowB w g bs) (cs : List UInt8) (hn : cs = str.data.toList.take dLen) (hpos : 0 < cs.length → dp = some ⟨g, off, none⟩) (hfit : off + cs.length ≤ bs.length)
    (h : ∀ w', Hid (RowB w' g (splice bs off cs)) → Kept (oneB g) w w' → w'.heap.size = w.heap.size → K (a.put o.dst (goInt cs.length)) w') :
    if Region.wanted o (yielded ops a.tmps) = true then Oper.wp P o a w K Q else E := by
  have hw : Region.wanted o (yielded ops a.tmps) = true := by simp [Region.wanted, hgd]
  rw [if_pos hw]
  obtain ⟨w', hrun, h1, h2, h3⟩ := run_copyS (P := P) dT sT o.type elem hu hsz dp dLen dCap str g off bs hg cs hn hpos hfit
  unfold Oper.wp
  simp [execOp, ho, resolve, invoke, builtin, hd, hs, hrun, Result.andThen]
  exact h w' (Lib.hid h1) h2 h3
end

/-! ### the fields in a map -/
def partV (r : Nat → Nat) (i : Nat) : Value := .agg #[.int .i64 (atF i), .slice (some ⟨r i, 0, none⟩) (wideF i) (wideF i)]
def partF (r : Nat → Nat) : Nat → Option Value := fun i => if i < 11 then some (partV r i) else none
structure PartsAt (w : World) (lo B : Nat) (r : Nat → Nat) (own : Nat → List UInt8) : Prop where
  map : MapF w B (partF r)
  row : ∀ i, i < 11 → RowB w (r i) (own i)
  fit : Fits own
  inj : ∀ i j, i < 11 → j < 11 → r i = r j → i = j
  lo : lo ≤ B ∧ ∀ i, i < 11 → lo ≤ r i
section
variable {w w' : World} {lo B : Nat} {r : Nat → Nat} {own : Nat → List UInt8}
theorem PartsAt.kept {S : Nat → Prop} (h : PartsAt w lo B r own) (hk : Kept S w w') (hB : ¬ S B) (hr : ∀ i, i < 11 → ¬ S (r i)) : PartsAt w' lo B r own :=
  ⟨h.map.kept hk hB, fun i hi => (h.row i hi).kept hk (hr i hi), h.fit, h.inj, h.lo⟩
theorem PartsAt.kept0 (h : PartsAt w lo B r own) (hk : Kept noneB w w') : PartsAt w' lo B r own := h.kept hk id fun _ _ => id
theorem PartsAt.offB (h : PartsAt w lo B r own) {i : Nat} (hi : i < 11) : r i ≠ B := fun e => by
  obtain ⟨es, clock, hb, _⟩ := h.map
  have := h.row i hi
  unfold RowB at this
  rw [e, hb] at this
  cases this
theorem PartsAt.bat (h : PartsAt w lo B r own) {i : Nat} (hi : i < 11) : BAt w (some ⟨r i, 0, none⟩) (wideF i) (own i) := by
  have := (h.row i hi).bat
  rwa [h.fit i] at this
/-- one field is written -/
theorem PartsAt.wrote (h : PartsAt w lo B r own) {i : Nat} (hi : i < 11) (hk : Kept (oneB (r i)) w w') {l : List UInt8} (hl : l.length = wideF i) (hr : RowB w' (r i) l) : PartsAt w' lo B r (upd own i l) :=
  ⟨h.map.kept hk (fun e => h.offB hi (Eq.symm e)), fun j hj => by
    by_cases hji : j = i
    · subst hji; rw [upd_same]; exact hr
    · rw [upd_other _ _ hji]
      exact (h.row j hj).kept hk (fun e => hji (h.inj j i hj hi e)), h.fit.upd hl, h.inj, h.lo⟩
end
end Go.Proofs.YtdnelijkhinpcabDoor.Mp
