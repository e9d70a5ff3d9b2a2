/- Maps keyed by values of one kind, told by what they hold at each key: made, written at a key that is there or at a new one, looked up. -/
import Derived.Test.YtfmhdkemigpjjaaDoorKept
import Derived.Test.YtfmhdkemigpjjaaDoorTxt
import Derived.Maps.OwnOps
import Derived.Maps.Own
namespace Go.Proofs.YtfmhdkemigpjjaaDoor.Mk
open Go.ChangeShapes Go.WideShapes Go.ChangeAt Go.RowKit Go.MapKept Go.Proofs.YtfmhdkemigpjjaaDoor.Base Go.Proofs.YtfmhdkemigpjjaaDoor.Byt Go.Proofs.YtfmhdkemigpjjaaDoor.Txt
set_option linter.unusedVariables false

/-- how keys stand: values of one kind, of each key its own -/
structure Keying (α : Type) where
  enc : α → Value
  kind : TypeDesc
  isKey : ∀ a, IsKey kind (enc a)
  inj : ∀ a b, enc a = enc b → a = b
  same : ∀ a, Instr.sameBits 10000 (enc a) (enc a) = true
/-- texts as keys -/
def strK : Keying (List UInt8) where
  enc l := .string (str l)
  kind := .string
  isKey _ := trivial
  inj a b h := by injection h with h; exact str_inj h
  same a := by
    rw [Instr.sameBits]
    simpa using str_beq a a
section
variable {α : Type} (K : Keying α)
/-- block B is a map that holds f -/
def MapK (w : World) (B : Nat) (f : α → Option Value) : Prop :=
  ∃ es clock, w.heap[B]? = some (.map es clock) ∧ Stamped es clock ∧ (∀ e ∈ es.toList, ∃ k, e.key = K.enc k ∧ f k = some e.val) ∧ (∀ k v, f k = some v → ∃ e ∈ es.toList, e.key = K.enc k)
variable {K} {w w' : World} {B : Nat} {f : α → Option Value}
theorem MapK.lt (h : MapK K w B f) : B < w.heap.size := by
  obtain ⟨es, clock, hb, _⟩ := h
  exact (Array.getElem?_eq_some_iff.1 hb).1
theorem MapK.kept {S : Nat → Prop} (h : MapK K w B f) (hk : Kept S w w') (hB : ¬ S B) : MapK K w' B f := by
  obtain ⟨es, clock, hb, h⟩ := h
  exact ⟨es, clock, hk.some_ hb hB, h⟩
theorem mapK_made (K : Keying α) (w : World) : MapK K (w.alloc (.map #[] 0)) w.heap.size (fun _ => none) :=
  ⟨#[], 0, (MapKept.heap_alloc w _).1, stamped_empty 0, by simp, by simp⟩
theorem kept_block {o o' : Obj} (hb : w.heap[B]? = some o) : Kept (oneB B) w (Go.ChangeMaps.setBlock w B o') :=
  ⟨rfl, rfl, rfl, by simp [Go.ChangeMaps.setBlock], fun k hk hn => (MapKept.heap_set hb).2 k hn⟩
variable {P : Program} {t k e : TypeId}
theorem MapK.put [DecidableEq α] (h : MapK K w B f) (ht : P.underlying t = some (.map k e)) (hk : P.underlying k = some K.kind) (x : α) (v : Value) :
    ∃ w', (Instr.mapUpdate t (.map (some B)) (K.enc x) v).run P w = .ok () w' ∧ MapK K w' B (fun y => if y = x then some v else f y) ∧ Kept (oneB B) w w' ∧ w'.heap.size = w.heap.size := by
  obtain ⟨es, clock, hb, hs, h1, h2⟩ := h
  rcases findNow_spec (K.isKey x) es.toList 0 (fun y hy => by obtain ⟨j, hj, _⟩ := h1 y hy; rw [hj]; exact K.isKey j) with ⟨hfind, hne⟩ | ⟨j, e0, hfind, h3, h4⟩
  · refine ⟨Go.ChangeMaps.setBlock w B (.map (es.push { key := K.enc x, val := v, born := clock }) (clock + 1)), ?_, ⟨_, _, (MapKept.heap_set hb).1, stamped_push hs hne, ?_, ?_⟩, kept_block hb, by simp [Go.ChangeMaps.setBlock]⟩
    · simp [Instr.mapUpdate, run_underlying ht, MapKept.run_getObj_map hb, run_checkKey hk (K.isKey x), run_findKey hk hfind, MapKept.run_setObj_map _ hb, Result.andThen, Go.ChangeMaps.setBlock]
    · intro y hy
      simp only [Array.toList_push, List.mem_append, List.mem_singleton] at hy
      rcases hy with hy | rfl
      · obtain ⟨j, hj, hf⟩ := h1 y hy
        refine ⟨j, hj, ?_⟩
        show (if j = x then some v else f j) = _
        rw [if_neg (fun e => hne y hy (by rw [hj, e]))]
        exact hf
      · exact ⟨x, rfl, by show (if x = x then some v else f x) = _; rw [if_pos rfl]⟩
    · intro j u hj
      simp only [Array.toList_push, List.mem_append, List.mem_singleton]
      have hj : (if j = x then some v else f j) = some u := hj
      by_cases hjx : j = x
      · exact ⟨_, Or.inr rfl, by rw [hjx]⟩
      · rw [if_neg hjx] at hj
        obtain ⟨y, hy, hk⟩ := h2 j u hj
        exact ⟨y, Or.inl hy, hk⟩
  · rw [Nat.zero_add] at hfind
    have h3' : es[j]? = some e0 := by simpa using h3
    have hkeep : ∀ w : World, (Instr.keyThatStays (((es[j]?).map (·.key)).getD (K.enc x)) (K.enc x)).run P w = .ok (K.enc x) w := fun w => by
      rw [h3']
      simp only [Option.map_some, Option.getD_some, h4, Instr.keyThatStays, K.same x, if_true]
      rfl
    refine ⟨Go.ChangeMaps.setBlock w B (.map (es.modify j fun e => { e with key := K.enc x, val := v }) clock), ?_, ⟨_, _, (MapKept.heap_set hb).1, ?_, ?_, ?_⟩, kept_block hb, by simp [Go.ChangeMaps.setBlock]⟩
    · simp only [Instr.mapUpdate, Sem.run_bind, run_underlying ht, MapKept.run_getObj_map hb, run_checkKey hk (K.isKey x), run_findKey hk hfind, hkeep, Result.andThen]
      simp [MapKept.run_setObj_map _ hb, Go.ChangeMaps.setBlock]
    · exact stamped_modify hs j _ (fun _ _ => rfl) fun e he hje => by
        rw [h3'] at hje
        cases hje
        exact h4.symm
    · intro y hy
      obtain ⟨i, hi⟩ := List.getElem?_of_mem hy
      rw [Array.getElem?_toList, Array.getElem?_modify] at hi
      by_cases hji : j = i
      · rw [if_pos hji] at hi
        rw [← hji, h3'] at hi
        cases hi
        exact ⟨x, rfl, by show (if x = x then some v else f x) = _; rw [if_pos rfl]⟩
      · rw [if_neg hji] at hi
        have hmem : y ∈ es.toList := List.mem_of_getElem? (by rw [Array.getElem?_toList]; exact hi)
        obtain ⟨a, ha, hf⟩ := h1 y hmem
        refine ⟨a, ha, ?_⟩
        show (if a = x then some v else f a) = _
        rw [if_neg (fun hax => ?_)]
        · exact hf
        · subst hax
          have hlj : j < es.toList.length := (List.getElem?_eq_some_iff.1 h3).1
          have hli : i < es.toList.length := by
            have := (Array.getElem?_eq_some_iff.1 hi).1
            simpa using this
          have hn := hs.2.2
          have hkj : (es.toList.map (·.key))[j]? = some (K.enc a) := by rw [List.getElem?_map, h3]; simp [h4]
          have hki : (es.toList.map (·.key))[i]? = some (K.enc a) := by rw [List.getElem?_map, Array.getElem?_toList, hi]; simp [ha]
          have hjl : j < (es.toList.map (·.key)).length := (List.getElem?_eq_some_iff.1 hkj).1
          have hil : i < (es.toList.map (·.key)).length := (List.getElem?_eq_some_iff.1 hki).1
          have e1 : (es.toList.map (·.key))[j] = (es.toList.map (·.key))[i] := by
            have a1 := (List.getElem?_eq_some_iff.1 hkj).2
            have a2 := (List.getElem?_eq_some_iff.1 hki).2
            rw [a1, a2]
          exact hji ((List.getElem_inj hn).1 e1)
    · intro a u ha
      have ha : (if a = x then some v else f a) = some u := ha
      have key : ∀ y ∈ es.toList, ∃ z ∈ (es.modify j fun e => { e with key := K.enc x, val := v }).toList, z.key = y.key := fun y hy => by
        obtain ⟨i, hi⟩ := List.getElem?_of_mem hy
        rw [Array.getElem?_toList] at hi
        by_cases hji : j = i
        · subst hji
          refine ⟨{ y with key := K.enc x, val := v }, List.mem_of_getElem? (i := j) (by rw [Array.getElem?_toList, Array.getElem?_modify, if_pos rfl, hi]; rfl), ?_⟩
          rw [h3'] at hi
          cases hi
          exact h4.symm
        · exact ⟨y, List.mem_of_getElem? (i := i) (by rw [Array.getElem?_toList, Array.getElem?_modify, if_neg hji]; exact hi), rfl⟩
      by_cases hax : a = x
      · obtain ⟨z, hz, hzk⟩ := key e0 (List.mem_of_getElem? h3)
        exact ⟨z, hz, by rw [hzk, h4, hax]⟩
      · rw [if_neg hax] at ha
        obtain ⟨y, hy, hyk⟩ := h2 a u ha
        obtain ⟨z, hz, hzk⟩ := key y hy
        exact ⟨z, hz, by rw [hzk, hyk]⟩
/-- what is there is found; of what is not there, the zero value -/
theorem MapK.look (h : MapK K w B f) (ht : P.underlying t = some (.map k e)) (hk : P.underlying k = some K.kind) {z : Value} (hz : ∀ w, (zeroValue e).run P w = .ok z w) (x : α) :
    (Instr.lookup t (.map (some B)) (K.enc x) false).run P w = .ok ((f x).getD z) w := by
  obtain ⟨es, clock, hb, hs, h1, h2⟩ := h
  rcases findNow_spec (K.isKey x) es.toList 0 (fun y hy => by obtain ⟨j, hj, _⟩ := h1 y hy; rw [hj]; exact K.isKey j) with ⟨hfind, hno⟩ | ⟨j, e0, hfind, h3, h4⟩
  · have hx : f x = none := by
      cases hf : f x with
      | none => rfl
      | some v =>
        obtain ⟨y, hy, hyk⟩ := h2 x v hf
        exact absurd hyk (hno y hy)
    rw [hx]
    simp [Instr.lookup, run_underlying ht, MapKept.run_getObj_map hb, run_checkKey hk (K.isKey x), run_findKey hk hfind, Result.andThen, hz]
  · have hx : f x = some e0.val := by
      obtain ⟨j', hj', hf⟩ := h1 e0 (List.mem_of_getElem? h3)
      rw [← K.inj _ _ (hj'.symm.trans h4)]
      exact hf
    rw [hx]
    have hfind' : Instr.findNow K.kind (K.enc x) es.toList 0 = some (some (0 + j, e0.val)) := by simpa using hfind
    simp [Instr.lookup, run_underlying ht, MapKept.run_getObj_map hb, run_checkKey hk (K.isKey x), run_findKey hk hfind', Result.andThen]
/-- .. and whether it is there -/
theorem MapK.look_ok (h : MapK K w B f) (ht : P.underlying t = some (.map k e)) (hk : P.underlying k = some K.kind) {z : Value} (hz : ∀ w, (zeroValue e).run P w = .ok z w) (x : α) :
    (Instr.lookup t (.map (some B)) (K.enc x) true).run P w = .ok (.tuple #[(f x).getD z, .bool (f x).isSome]) w := by
  obtain ⟨es, clock, hb, hs, h1, h2⟩ := h
  rcases findNow_spec (K.isKey x) es.toList 0 (fun y hy => by obtain ⟨j, hj, _⟩ := h1 y hy; rw [hj]; exact K.isKey j) with ⟨hfind, hno⟩ | ⟨j, e0, hfind, h3, h4⟩
  · have hx : f x = none := by
      cases hf : f x with
      | none => rfl
      | some v =>
        obtain ⟨y, hy, hyk⟩ := h2 x v hf
        exact absurd hyk (hno y hy)
    rw [hx]
    simp [Instr.lookup, run_underlying ht, MapKept.run_getObj_map hb, run_checkKey hk (K.isKey x), run_findKey hk hfind, Result.andThen, hz]
  · have hx : f x = some e0.val := by
      obtain ⟨j', hj', hf⟩ := h1 e0 (List.mem_of_getElem? h3)
      rw [← K.inj _ _ (hj'.symm.trans h4)]
      exact hf
    rw [hx]
    have hfind' : Instr.findNow K.kind (K.enc x) es.toList 0 = some (some (0 + j, e0.val)) := by simpa using hfind
    simp [Instr.lookup, run_underlying ht, MapKept.run_getObj_map hb, run_checkKey hk (K.isKey x), run_findKey hk hfind', Result.andThen]
/-- a map that is none has nothing -/
theorem look_nil (ht : P.underlying t = some (.map k e)) (hk : P.underlying k = some K.kind) {z : Value} (hz : ∀ w, (zeroValue e).run P w = .ok z w) (x : α) (w : World) :
    (Instr.lookup t (.map none) (K.enc x) false).run P w = .ok z w := by
  have hf : Instr.findNow K.kind (K.enc x) [] 0 = some none := rfl
  simp [Instr.lookup, run_underlying ht, run_checkKey hk (K.isKey x), run_findKey hk hf, Result.andThen, hz]
end
/-! ### at the operations -/
section
variable {α : Type} [DecidableEq α] {K : Keying α} {P : Program} {w : World} {ops : Array Oper} {rest : List Oper} {o : Oper} {a : Act} {Q : Exit → Act → World → Prop} {f : α → Option Value} {t k e : TypeId}
theorem wpList_putK (hg : o.guard = none) (m x v : Operand) (hop : o.op = .mapUpdate t m x v) (ht : P.underlying t = some (.map k e)) (hk : P.underlying k = some K.kind)
    (B : Nat) (h : MapK K w B f) (hm : a.eval m = .map (some B)) (key : α) (hx : a.eval x = K.enc key) (val : Value) (hv : a.eval v = val)
    (hK : ∀ w', Hid (MapK K w' B (fun y => if y = key then some val else f y)) → Hid (Kept (oneB B) w w') → w'.heap.size = w.heap.size → wpList P ops Q rest (a.put o.dst undef) w') : wpList P ops Q (o :: rest) a w := by
  refine wpList_plain hg fun K' hK' => ?_
  subst hv
  obtain ⟨w', hrun, h1, h2, h3⟩ := h.put ht hk key (a.eval v)
  unfold Oper.wp
  simp [execOp, hop, hm, hx, hrun, Result.andThen]
  exact hK' _ _ (hK w' (Lib.hid h1) (Lib.hid h2) h3)
end
end Go.Proofs.YtfmhdkemigpjjaaDoor.Mk
