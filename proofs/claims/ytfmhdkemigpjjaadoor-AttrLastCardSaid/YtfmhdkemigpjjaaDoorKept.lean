/- Worlds behind a call that may write to some blocks alone; slices of numbers in the walk's words. -/
import Derived.Test.YtfmhdkemigpjjaaDoorBytApp
namespace Go.Proofs.YtfmhdkemigpjjaaDoor.Byt
open Go.ChangeShapes Go.WideShapes Go.ChangeAt Go.RowKit Go.Proofs.YtfmhdkemigpjjaaDoor.Base Go.Lib
set_option linter.unusedVariables false

/-- all that was there is as it was, but the blocks of S -/
structure Kept (S : Nat → Prop) (w w' : World) : Prop where
  os : w'.os = w.os
  tape : w'.tape = w.tape
  output : w'.output = w.output
  size : w.heap.size ≤ w'.heap.size
  block : ∀ k, k < w.heap.size → ¬ S k → w'.heap[k]? = w.heap[k]?
def noneB : Nat → Prop := fun _ => False
def oneB (g : Nat) : Nat → Prop := fun k => k = g
def twoB (g : Nat) (o : Option Nat) : Nat → Prop := fun k => k = g ∨ some k = o
section
variable {S T : Nat → Prop} {w w' w'' : World}
theorem Kept.refl (S : Nat → Prop) (w : World) : Kept S w w := ⟨rfl, rfl, rfl, Nat.le_refl _, fun _ _ _ => rfl⟩
theorem Kept.trans (h : Kept S w w') (k : Kept S w' w'') : Kept S w w'' :=
  ⟨k.os.trans h.os, k.tape.trans h.tape, k.output.trans h.output, Nat.le_trans h.size k.size, fun i hi hn => (k.block i (Nat.lt_of_lt_of_le hi h.size) hn).trans (h.block i hi hn)⟩
theorem Kept.mono (h : Kept S w w') (hs : ∀ k, S k → T k) : Kept T w w' := ⟨h.os, h.tape, h.output, h.size, fun k hk hn => h.block k hk fun hh => hn (hs k hh)⟩
theorem Kept.of_none (h : Kept noneB w w') (S : Nat → Prop) : Kept S w w' := h.mono fun _ hh => hh.elim
theorem Kept.drewN (h : Kept S w w') (n : Nat) : Kept S w (w'.drewN n) := h.trans ⟨rfl, rfl, rfl, Nat.le_refl _, fun _ _ _ => rfl⟩
theorem Kept.drew (h : Kept S w w') : Kept S w w'.drew := h.trans ⟨rfl, rfl, rfl, Nat.le_refl _, fun _ _ _ => rfl⟩
theorem Kept.alloc (h : Kept S w w') (o : Obj) : Kept S w (w'.alloc o) := h.trans ⟨rfl, rfl, rfl, by simp, fun k hk _ => Below.heap_alloc _ _ _ hk⟩
theorem Kept.setCell (h : Kept S w w') {a : Addr} (ha : w.heap.size ≤ a.block ∨ S a.block) (v : Value) : Kept S w (w'.setCell a v) :=
  ⟨h.os, h.tape, h.output, by simpa using h.size, fun k hk hn => by
    rw [Below.heap_setCell _ _ _ _ (fun e => by rcases ha with ha | ha; · omega
                                                · exact hn (e ▸ ha))]
    exact h.block k hk hn⟩
theorem Kept.below (h : Kept S w w') {B : Nat} (hB : B ≤ w.heap.size) (hs : ∀ k, S k → B ≤ k) : Below B w w' :=
  ⟨h.os, h.tape, h.output, h.size, fun k hk => h.block k (by omega) fun hh => by have := hs k hh; omega⟩
theorem Kept.of_below (h : Below w.heap.size w w') (S : Nat → Prop) : Kept S w w' := ⟨h.os, h.tape, h.output, h.size, fun k hk _ => h.block k hk⟩
theorem Kept.grown (h : Kept S w w') {row : Option Nat} (hg : w'.grownBy w'' row) (hr : ∀ k, row = some k → w.heap.size ≤ k ∨ S k) : Kept S w w'' :=
  ⟨hg.os.trans h.os, hg.tape.trans h.tape, hg.output.trans h.output, Nat.le_trans h.size hg.size, fun k hk hn => by
    rw [hg.block k (Nat.lt_of_lt_of_le hk h.size) (fun e => by rcases hr k e.symm with h1 | h1; · omega
                                                               · exact hn h1)]
    exact h.block k hk hn⟩
/-- what is added behind: a step that keeps all but blocks of its own, and of S -/
theorem Kept.then (h : Kept S w w') (k : Kept T w' w'') (hs : ∀ i, T i → w.heap.size ≤ i ∨ S i) : Kept S w w'' :=
  ⟨k.os.trans h.os, k.tape.trans h.tape, k.output.trans h.output, Nat.le_trans h.size k.size, fun i hi hn => by
    rw [k.block i (Nat.lt_of_lt_of_le hi h.size) (fun hh => by rcases hs i hh with h1 | h1; · omega
                                                               · exact hn h1)]
    exact h.block i hi hn⟩
theorem Kept.at (h : Kept S w w') {k : Nat} (hk : k < w.heap.size) (hn : ¬ S k) : w'.heap[k]? = w.heap[k]? := h.block k hk hn
theorem Kept.some_ (h : Kept S w w') {k : Nat} {o : Obj} (hk : w.heap[k]? = some o) (hn : ¬ S k) : w'.heap[k]? = some o :=
  (h.block k (Array.getElem?_eq_some_iff.1 hk).1 hn).trans hk

/-- the blocks of a slice of bytes that is read are none of S -/
theorem BAt.kept {p : Option Addr} {n : Nat} {bs : List UInt8} (h : BAt w p n bs) (hk : Kept S w w') (hn : 0 < n → ∀ a, p = some a → ¬ S a.block) : BAt w' p n bs := fun h0 => by
  obtain ⟨b, o, rfl, hbw, hc⟩ := h.cell h0
  exact ⟨b, o, rfl, fun i hi => by rw [World.cell?_of_block (hk.block b hbw (hn h0 _ rfl))]; exact hc i hi⟩
theorem ownsRow_kept {base : Nat} {e : TypeId} {size : Nat} {v : Value} {n : Nat} {xs : List Value} (h : w.ownsRow base e size v n xs) (hk : Kept S w w') (hn : ∀ k, v.ownBlock = some k → ¬ S k) : w'.ownsRow base e size v n xs :=
  ⟨h.1, h.2.imp id fun ⟨g, cap, cur, h1, h2, h3, h4⟩ => ⟨g, cap, cur, h1, h2, hk.some_ h3 (hn g (by rw [h1]; rfl)), h4⟩⟩

/-- the m numbers at q are zs -/
def IAt (w : World) (p : Option Addr) (n : Nat) (zs : List Int) : Prop :=
  0 < n → ∃ b o, p = some ⟨b, o, none⟩ ∧ b < w.heap.size ∧ ∀ i, i < n → w.cell? ⟨b, o + i, none⟩ = some (.int .i64 (zs.getD i 0))
theorem IAt.kept {p : Option Addr} {n : Nat} {zs : List Int} (h : IAt w p n zs) (hk : Kept S w w') (hn : 0 < n → ∀ a, p = some a → ¬ S a.block) : IAt w' p n zs := fun h0 => by
  obtain ⟨b, o, rfl, hbw, hc⟩ := h h0
  exact ⟨b, o, rfl, Nat.lt_of_lt_of_le hbw hk.size, fun i hi => by rw [World.cell?_of_block (hk.block b hbw (hn h0 _ rfl))]; exact hc i hi⟩
theorem iat_of_row {a : Option Addr} {len cap : Nat} {zs : List Int} (h : IsRow .i64 w a len cap zs) : IAt w a len (zs.take len) ∧ (zs.take len).length = len ∧ len ≤ cap ∧ cap ≤ maxLen := by
  refine ⟨fun h0 => ?_, ?_⟩
  · obtain ⟨b, off, rfl, _, _, _, hb, h5, _⟩ := row_at h h0
    exact ⟨b, off, rfl, hb, h5⟩
  · rcases h with ⟨_, rfl, rfl, rfl⟩ | ⟨_, _, h1, h2, h3, _, _⟩
    · exact ⟨rfl, by omega, by omega⟩
    · exact ⟨by rw [List.length_take]; omega, h1, h2⟩
/-- a row of the call's own, read as numbers -/
theorem iat_of_own {base : Nat} {e : TypeId} {v : Value} {n : Nat} {zs : List Int} (h : w.ownsRow base e 1 v n (zs.map (Value.int .i64))) :
    ∃ p c, v = .slice p n c ∧ n ≤ c ∧ c ≤ maxLen ∧ IAt w p n zs ∧ zs.length = n ∧ (∀ a, p = some a → base ≤ a.block ∧ v.ownBlock = some a.block) := by
  have hl : zs.length = n := by have := h.1; simpa using this
  have hlt := h.lt
  have h' := h
  rcases h.2 with ⟨rfl, rfl⟩ | ⟨g, cap, cur, rfl, hg, _, h1, h2, _⟩
  · exact ⟨none, 0, rfl, by omega, by omega, fun h => absurd h (by omega), hl, fun a h => by cases h⟩
  · refine ⟨some ⟨g, 0, none⟩, cap, rfl, h1, h2, fun h0 => ⟨g, 0, rfl, (hlt g rfl).2, fun i hi => ?_⟩, hl, fun a h => by cases h; exact ⟨hg, rfl⟩⟩
    rw [Nat.zero_add, h'.cellAt i (by omega), List.getElem?_map, List.getElem?_eq_getElem (by omega)]
    simp [List.getD, hl, hi]
theorem own_block {base : Nat} {e : TypeId} {size : Nat} {v : Value} {n : Nat} {xs : List Value} (h : w.ownsRow base e size v n xs) {p : Option Addr} {m c : Nat} (hv : v = .slice p m c) : ∀ a, p = some a → base ≤ a.block ∧ a.block < w.heap.size ∧ v.ownBlock = some a.block := fun a ha => by
  subst ha hv
  exact ⟨(h.lt _ rfl).1, (h.lt _ rfl).2, rfl⟩
/-- append of a slice of numbers onto a row of the call's own: the source nil, empty or not. -/
theorem append_ints {P : Program} {w : World} {ops : Array Oper} {rest : List Oper} {o : Oper} {a : Act} {Q : Exit → Act → World → Prop} (hgd : o.guard = none) (s x : Operand) (t : TypeId)
    (ho : o.op = .call { callee := .builtin .append, args := #[s, x], argTypes := #[t, t] })
    (base : Nat) (e : TypeId) (i : TypeInfo) (ht : P.underlying t = some (.slice e)) (hi : P.info? e = some i) (hz : i.zero = some (.int .i64 0)) (hsize : i.size = 1) (hby : i.bytes = 8)
    (v : Value) (n : Nat) (xs : List Int) (hs : a.eval s = v) (hown : w.ownsRow base e 1 v n (xs.map (Value.int .i64)))
    (p : Option Addr) (m c : Nat) (zs : List Int) (hx : a.eval x = .slice p m c) (hb : IAt w p m zs) (hl : zs.length = m) (hsum : (n + m) * 8 ≤ 140737488351232) (hbase : base ≤ w.heap.size)
    (h : ∀ v' w', w'.ownsRow base e 1 v' (n + m) ((xs ++ zs).map (Value.int .i64)) → w.grownBy w' v.ownBlock → wpList P ops Q rest (a.put o.dst v') w') : wpList P ops Q (o :: rest) a w := by
  rcases p with _ | ad
  · have hm : m = 0 := by
      rcases Nat.eq_zero_or_pos m with h0 | h0
      · exact h0
      · obtain ⟨_, _, he, _⟩ := hb h0
        cases he
    subst hm
    obtain rfl : zs = [] := List.eq_nil_of_length_eq_zero hl
    have hrun : (Builtin.append_ #[t, t] o.type #[v, .slice none 0 c]).run P w = .ok v w := by
      rcases hown.2 with ⟨rfl, rfl⟩ | ⟨g, cap, cur, rfl, _, _, hnc, _⟩
      · simp [Builtin.append_, run_underlying ht, sizeOf, typeInfo, hi, Builtin.lenOf, Builtin.firstCells]
      · simp [Builtin.append_, run_underlying ht, sizeOf, typeInfo, hi, Builtin.lenOf, Builtin.firstCells, hnc, storeCells]
    refine wpList_plain hgd fun K hK => ?_
    unfold Oper.wp
    simp [execOp, ho, resolve, invoke, builtin, hs, hx, hrun, Result.andThen]
    exact hK _ _ (h v w (by simpa using hown) (World.grownBy.refl w _))
  · refine wpList_append_own w hgd s x t ho base e i (.int .i64 0) 1 8 ht hi hz hsize hby rfl (by decide) v n (xs.map (Value.int .i64)) hs hown ad m c (zs.map (Value.int .i64)) hx (by rw [List.length_map, hl]; omega) ?_ (ints_oneCell .i64 _) (by unfold maxLen; omega) (by omega) hbase ?_
    · intro j u hj
      have hjl : j < m := by
        have := (List.getElem?_eq_some_iff.1 hj).1
        rw [List.length_map, hl] at this
        exact this
      obtain ⟨b, off, he, _, hc⟩ := hb (by omega)
      cases he
      rw [List.getElem?_map, List.getElem?_eq_getElem (by omega)] at hj
      cases hj
      rw [add_plain, hc j hjl]
      simp [List.getD, List.getElem?_eq_getElem (show j < zs.length by omega)]
    · intro v' w' h1 h2 _
      rw [← List.map_append] at h1
      exact h v' w' h1 h2
end
theorem infoU8 : (Tryd.prog.info? 5).map (fun i => (i.zero, i.size, i.bytes)) = some (some (.int .u8 0), 1, 1) := by kernel_rfl
theorem infoI64 : (Tryd.prog.info? 3).map (fun i => (i.zero, i.size, i.bytes)) = some (some (.int .i64 0), 1, 8) := by kernel_rfl
end Go.Proofs.YtfmhdkemigpjjaaDoor.Byt
