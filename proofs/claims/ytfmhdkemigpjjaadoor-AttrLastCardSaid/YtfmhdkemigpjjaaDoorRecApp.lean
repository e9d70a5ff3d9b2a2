/- append of a slice of records onto a row of the call's own: the source nil, empty or not. -/
import Derived.Test.YtfmhdkemigpjjaaDoorRecRow
import Derived.Laws.AppendOwnNone
namespace Go.Proofs.YtfmhdkemigpjjaaDoor.Rec
open Go.ChangeShapes Go.WideShapes Go.ChangeAt Go.RowKit Go.Proofs.YtfmhdkemigpjjaaDoor.Base Go.Proofs.YtfmhdkemigpjjaaDoor.Byt Go.Proofs.YtfmhdkemigpjjaaDoor.Txt Go.Lib
set_option linter.unusedVariables false

theorem flatR_app (a b : List (List UInt8 × List UInt8)) : flatR (a ++ b) = flatR a ++ flatR b := by simp [flatR]
theorem flatR_one (rs : List (List UInt8 × List UInt8)) : ∀ u ∈ flatR rs, u.oneCell' = true := by
  intro u hu
  obtain ⟨r, _, hr⟩ := List.mem_flatMap.1 hu
  rcases List.mem_cons.1 hr with rfl | hr
  · rfl
  · rcases List.mem_cons.1 hr with rfl | hr
    · rfl
    · cases hr
theorem append_recs {P : Program} {w : World} {ops : Array Oper} {rest : List Oper} {o : Oper} {a : Act} {Q : Exit → Act → World → Prop} (hgd : o.guard = none) (s x : Operand) (t : TypeId)
    (ho : o.op = .call { callee := .builtin .append, args := #[s, x], argTypes := #[t, t] })
    (base : Nat) (e : TypeId) (i : TypeInfo) (z : Value) (ht : P.underlying t = some (.slice e)) (hi : P.info? e = some i) (hz : i.zero = some z) (hsize : i.size = 2) (hby : i.bytes = 32) (hzs : z.cells.size = 2)
    (v : Value) (n : Nat) (xs : List (List UInt8 × List UInt8)) (hs : a.eval s = v) (hown : w.ownsRow base e 2 v n (flatR xs))
    (p : Option Addr) (m c : Nat) (rs : List (List UInt8 × List UInt8)) (hx : a.eval x = .slice p m c) (hb : RecsAt w p m rs) (hsum : (n + m) * 32 ≤ 140737488355328) (hbase : base ≤ w.heap.size)
    (h : ∀ v' w', w'.ownsRow base e 2 v' (n + m) (flatR (xs ++ rs)) → w.grownBy w' v.ownBlock → wpList P ops Q rest (a.put o.dst v') w') : wpList P ops Q (o :: rest) a w := by
  have hl := hb.1
  rcases p with _ | ad
  · have hm : m = 0 := by
      rcases Nat.eq_zero_or_pos m with h0 | h0
      · exact h0
      · obtain ⟨_, _, he, _⟩ := hb.2 h0
        cases he
    subst hm
    obtain rfl : rs = [] := List.eq_nil_of_length_eq_zero hl
    have hrun : (Builtin.append_ #[t, t] o.type #[v, .slice none 0 c]).run P w = .ok v w := by
      rcases hown.2 with ⟨rfl, rfl⟩ | ⟨g, cap, cur, rfl, _, _, hnc, _⟩
      · simp [Builtin.append_, run_underlying ht, sizeOf, typeInfo, hi, Builtin.lenOf, Builtin.firstCells]
      · simp [Builtin.append_, run_underlying ht, sizeOf, typeInfo, hi, Builtin.lenOf, Builtin.firstCells, hnc, storeCells]
    refine wpList_plain hgd fun K hK => ?_
    unfold Oper.wp
    simp [execOp, ho, resolve, invoke, builtin, hs, hx, hrun, Result.andThen]
    exact hK _ _ (h v w (by simpa using hown) (World.grownBy.refl w _))
  · refine wpList_append_own w hgd s x t ho base e i z 2 32 ht hi hz hsize hby hzs (by decide) v n (flatR xs) hs hown ad m c (flatR rs) hx (by rw [flatR_length, hl]; omega) ?_ (flatR_one rs) (by unfold maxLen; omega) hsum hbase ?_
    · intro j u hj
      have hjl : j < 2 * m := by
        have := (List.getElem?_eq_some_iff.1 hj).1
        rw [flatR_length, hl] at this
        exact this
      obtain ⟨b, off, he, _, hc⟩ := hb.2 (by omega)
      cases he
      obtain ⟨c0, c1⟩ := hc (j / 2) (by omega)
      obtain ⟨g0, g1⟩ := flatR_get rs (j / 2) (by omega)
      rw [add_plain]
      rcases Nat.mod_two_eq_zero_or_one j with hj2 | hj2
      · have e : j = 2 * (j / 2) := by omega
        rw [e] at hj
        rw [g0] at hj
        cases hj
        rw [show off + j = off + 2 * (j / 2) by omega]
        exact c0
      · have e : j = 2 * (j / 2) + 1 := by omega
        rw [e] at hj
        rw [g1] at hj
        cases hj
        rw [show off + j = off + 2 * (j / 2) + 1 by omega]
        exact c1
    · intro v' w' h1 h2 _
      rw [← flatR_app] at h1
      exact h v' w' h1 h2
end Go.Proofs.YtfmhdkemigpjjaaDoor.Rec
