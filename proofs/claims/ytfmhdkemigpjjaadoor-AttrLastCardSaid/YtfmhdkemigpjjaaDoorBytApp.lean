/- append of a slice of bytes onto a row of the call's own: the source nil, empty or not. -/
import Derived.Test.YtfmhdkemigpjjaaDoorByt
import Derived.Laws.AppendOwnNone
namespace Go.Proofs.YtfmhdkemigpjjaaDoor.Byt
open Go.ChangeShapes Go.WideShapes Go.ChangeAt Go.RowKit Go.Proofs.YtfmhdkemigpjjaaDoor.Base Go.Lib
set_option linter.unusedVariables false

/-- bytes as numbers -/
def nums (bs : List UInt8) : List Int := bs.map fun x => (x.toNat : Int)
theorem nums_length (bs : List UInt8) : (nums bs).length = bs.length := by simp [nums]
theorem nums_bd (bs : List UInt8) : ∀ x ∈ nums bs, 0 ≤ x ∧ x < 256 := fun x hx => by
  obtain ⟨y, _, rfl⟩ := List.mem_map.1 hx
  have := y.toNat_lt
  omega
theorem bytesOf_nums (bs : List UInt8) : bytesOf (nums bs) = bs := by
  unfold bytesOf nums
  rw [List.map_map]
  conv => rhs; rw [← List.map_id bs]
  apply List.map_congr_left
  intro x _
  simp
theorem nums_getElem (bs : List UInt8) (j : Nat) (hj : j < bs.length) : ((nums bs).map (Value.int .u8))[j]? = some (.int .u8 (bs.getD j 0).toNat) := by
  simp [nums, List.getD, hj]
theorem append_bytes {P : Program} {w : World} {ops : Array Oper} {rest : List Oper} {o : Oper} {a : Act} {Q : Exit → Act → World → Prop} (hgd : o.guard = none) (s x : Operand) (t : TypeId)
    (ho : o.op = .call { callee := .builtin .append, args := #[s, x], argTypes := #[t, t] })
    (base : Nat) (e : TypeId) (i : TypeInfo) (ht : P.underlying t = some (.slice e)) (hi : P.info? e = some i) (hz : i.zero = some (.int .u8 0)) (hsize : i.size = 1) (hby : i.bytes = 1)
    (v : Value) (n : Nat) (xs : List Int) (hs : a.eval s = v) (hown : w.ownsRow base e 1 v n (xs.map (Value.int .u8)))
    (p : Option Addr) (m c : Nat) (bs : List UInt8) (hx : a.eval x = .slice p m c) (hb : BAt w p m bs) (hl : bs.length = m) (hsum : n + m ≤ 140737488351232) (hbase : base ≤ w.heap.size)
    (h : ∀ v' w', w'.ownsRow base e 1 v' (n + m) ((xs ++ nums bs).map (Value.int .u8)) → w.grownBy w' v.ownBlock → wpList P ops Q rest (a.put o.dst v') w') : wpList P ops Q (o :: rest) a w := by
  rcases p with _ | ad
  · have hm : m = 0 := by
      rcases Nat.eq_zero_or_pos m with h0 | h0
      · exact h0
      · obtain ⟨_, _, he, _⟩ := hb h0
        cases he
    subst hm
    obtain rfl : bs = [] := List.eq_nil_of_length_eq_zero hl
    have hrun : (Builtin.append_ #[t, t] o.type #[v, .slice none 0 c]).run P w = .ok v w := by
      rcases hown.2 with ⟨rfl, rfl⟩ | ⟨g, cap, cur, rfl, _, _, hnc, _⟩
      · simp [Builtin.append_, run_underlying ht, sizeOf, typeInfo, hi, Builtin.lenOf, Builtin.firstCells]
      · simp [Builtin.append_, run_underlying ht, sizeOf, typeInfo, hi, Builtin.lenOf, Builtin.firstCells, hnc, storeCells]
    refine wpList_plain hgd fun K hK => ?_
    unfold Oper.wp
    simp [execOp, ho, resolve, invoke, builtin, hs, hx, hrun, Result.andThen]
    exact hK _ _ (h v w (by simpa [nums] using hown) (World.grownBy.refl w _))
  · refine wpList_append_own w hgd s x t ho base e i (.int .u8 0) 1 1 ht hi hz hsize hby rfl (by decide) v n (xs.map (Value.int .u8)) hs hown ad m c ((nums bs).map (Value.int .u8)) hx (by rw [List.length_map, nums_length, hl]; omega) ?_ (ints_oneCell .u8 _) (by unfold maxLen; omega) (by omega) hbase ?_
    · intro j u hj
      have hjl : j < m := by
        have := (List.getElem?_eq_some_iff.1 hj).1
        rw [List.length_map, nums_length, hl] at this
        exact this
      obtain ⟨b, off, he, hc⟩ := hb (by omega)
      cases he
      rw [nums_getElem bs j (by omega)] at hj
      cases hj
      rw [add_plain]
      exact hc j hjl
    · intro v' w' h1 h2 _
      rw [← List.map_append] at h1
      exact h v' w' h1 h2
end Go.Proofs.YtfmhdkemigpjjaaDoor.Byt
