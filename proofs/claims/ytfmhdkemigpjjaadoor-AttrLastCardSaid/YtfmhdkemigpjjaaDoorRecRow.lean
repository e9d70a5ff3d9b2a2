/- Rows of records in memory. -/
import Derived.Test.YtfmhdkemigpjjaaDoorRecLine
import Derived.Laws.AppendOwn
import Derived.OwnWalk
import Derived.Deep.RegionHeldLaw
namespace Go.Proofs.YtfmhdkemigpjjaaDoor.Rec
open Go.ChangeShapes Go.WideShapes Go.ChangeAt Go.RowKit Go.Proofs.YtfmhdkemigpjjaaDoor.Base Go.Proofs.YtfmhdkemigpjjaaDoor.Byt Go.Proofs.YtfmhdkemigpjjaaDoor.Txt Go.Proofs.YtfmhdkemigpjjaaDoor.Path Go.Lib
set_option linter.unusedVariables false
set_option maxRecDepth 100000

/-- records' cells, one behind the other -/
def flatR (rs : List (List UInt8 × List UInt8)) : List Value := rs.flatMap fun r => [.string (str r.1), .string (str r.2)]
theorem flatR_length (rs : List (List UInt8 × List UInt8)) : (flatR rs).length = 2 * rs.length := by
  induction rs with
  | nil => rfl
  | cons r rs ih => simp only [flatR, List.flatMap_cons, List.length_append, List.length_cons, List.length_nil] at ih ⊢; omega
theorem flatR_snoc (rs : List (List UInt8 × List UInt8)) (k v : List UInt8) : flatR (rs ++ [(k, v)]) = flatR rs ++ [.string (str k), .string (str v)] := by simp [flatR]
theorem flatR_get (rs : List (List UInt8 × List UInt8)) : ∀ i, i < rs.length → (flatR rs)[2 * i]? = some (.string (str (rs.getD i ([], [])).1)) ∧ (flatR rs)[2 * i + 1]? = some (.string (str (rs.getD i ([], [])).2)) := by
  induction rs with
  | nil => intro i h; simp at h
  | cons r rs ih =>
    intro i h
    cases i with
    | zero => exact ⟨rfl, rfl⟩
    | succ i =>
      have := ih i (by simpa using h)
      have e : flatR (r :: rs) = .string (str r.1) :: .string (str r.2) :: flatR rs := rfl
      rw [e, show 2 * (i + 1) = 2 * i + 1 + 1 by omega]
      simpa using this
/-- the n records at p are rs -/
def RecsAt (w : World) (p : Option Addr) (n : Nat) (rs : List (List UInt8 × List UInt8)) : Prop :=
  rs.length = n ∧ (0 < n → ∃ b o, p = some ⟨b, o, none⟩ ∧ b < w.heap.size ∧ ∀ i, i < n → w.cell? ⟨b, o + 2 * i, none⟩ = some (.string (str (rs.getD i ([], [])).1)) ∧ w.cell? ⟨b, o + 2 * i + 1, none⟩ = some (.string (str (rs.getD i ([], [])).2)))
theorem RecsAt.below {w w' : World} {p : Option Addr} {n : Nat} {rs : List (List UInt8 × List UInt8)} (h : RecsAt w p n rs) (hb : Below w.heap.size w w') : RecsAt w' p n rs := by
  refine ⟨h.1, fun h0 => ?_⟩
  obtain ⟨b, o, rfl, hbw, hc⟩ := h.2 h0
  refine ⟨b, o, rfl, Nat.lt_of_lt_of_le hbw hb.size, fun i hi => ⟨?_, ?_⟩⟩
  · rw [hb.cell (p := ⟨b, o + 2 * i, none⟩) hbw]; exact (hc i hi).1
  · rw [hb.cell (p := ⟨b, o + 2 * i + 1, none⟩) hbw]; exact (hc i hi).2
/-- what the call made itself -/
theorem recs_own {w : World} {base : Nat} {e : TypeId} {v : Value} {rs : List (List UInt8 × List UInt8)} (h : w.ownsRow base e 2 v rs.length (flatR rs)) : ∃ p c, v = .slice p rs.length c ∧ rs.length ≤ c ∧ c ≤ maxLen ∧ RecsAt w p rs.length rs := by
  rcases h.2 with ⟨rfl, h0⟩ | ⟨g, cap, cur, rfl, hb, hg, hn, hc, hs, ht⟩
  · exact ⟨none, 0, by rw [h0], by omega, by decide, rfl, fun h => by omega⟩
  · refine ⟨some ⟨g, 0, none⟩, cap, rfl, hn, hc, rfl, fun h0 => ⟨g, 0, rfl, (Array.getElem?_eq_some_iff.1 hg).1, fun i hi => ?_⟩⟩
    have get : ∀ j, j < 2 * rs.length → w.cell? ⟨g, j, none⟩ = (flatR rs)[j]? := fun j hj => by
      unfold World.cell?
      rw [hg, ← ht, List.getElem?_take, if_pos (by omega)]
      simp
    obtain ⟨g1, g2⟩ := flatR_get rs i hi
    rw [Nat.zero_add]
    exact ⟨by rw [get _ (by omega)]; exact g1, by rw [get _ (by omega)]; exact g2⟩
theorem infoRec : (Tryd.prog.info? 43).map (fun i => (i.zero, i.size, i.bytes)) = some (some (.agg #[.string ⟨#[]⟩, .string ⟨#[]⟩]), 2, 32) := by kernel_rfl
/-- so many digits stand at the beginning -/
theorem digN_is (l : List UInt8) : ∀ k, k ≤ l.length → (∀ j, j < k → isDig (l.getD j 0) = true) → (k = l.length ∨ isDig (l.getD k 0) = false) → digN l = k := by
  unfold digN
  induction l with
  | nil => intro k h _ _; simp at h; simp [h]
  | cons b l ih =>
    intro k hk hd he
    cases k with
    | zero =>
      rcases he with h | h
      · simp at h
      · rw [List.takeWhile_cons, show isDig b = false from h]; rfl
    | succ k =>
      have hb : isDig b = true := hd 0 (by omega)
      rw [List.takeWhile_cons, hb, if_pos rfl, List.length_cons, ih k (by simpa using hk) (fun j hj => by simpa using hd (j + 1) (by omega)) (by simpa using he)]
theorem mem_tw (l : List UInt8) : ∀ b ∈ l.takeWhile isDig, isDig b = true := by
  induction l with
  | nil => simp
  | cons c l ih =>
    intro b hb
    rw [List.takeWhile_cons] at hb
    split at hb
    · next h =>
      rcases List.mem_cons.1 hb with rfl | h1
      · exact h
      · exact ih b h1
    · cases hb
theorem digN_take (l : List UInt8) : digN l ≤ l.length ∧ ∀ b ∈ l.take (digN l), isDig b = true := by
  unfold digN
  have hp : l.takeWhile isDig <+: l := List.takeWhile_prefix _
  refine ⟨hp.length_le, fun b hb => ?_⟩
  rw [← List.prefix_iff_eq_take.1 hp] at hb
  exact mem_tw l b hb
/-- append of records to a row of the call's own, as one step of a region that draws its order -/
theorem step_append_own {P : Program} {w : World} {ops : Array Oper} {o : Oper} {a : Act} {K : Act → World → Prop} {Q : Exit → Act → World → Prop} {E : Prop} (hw : Region.wanted o (yielded ops a.tmps) = true) (s x : Operand) (t : TypeId)
    (ho : o.op = .call { callee := .builtin .append, args := #[s, x], argTypes := #[t, t] })
    (base : Nat) (e : TypeId) (i : TypeInfo) (z : Value) (size bytes : Nat) (ht : P.underlying t = some (.slice e)) (hi : P.info? e = some i) (hz : i.zero = some z)
    (hsize : i.size = size) (hby : i.bytes = bytes) (hzs : z.cells.size = size) (hsz : 0 < size)
    (v : Value) (n : Nat) (xs : List Value) (hs : a.eval s = v) (hown : w.ownsRow base e size v n xs)
    (ad : Addr) (m c : Nat) (news : List Value) (hx : a.eval x = .slice (some ad) m c) (hl : news.length = m * size) (hnews : ∀ j u, news[j]? = some u → w.cell? (ad.add j) = some u) (h1 : ∀ u ∈ news, u.oneCell' = true)
    (h63 : n + m ≤ maxLen) (hbytes : (n + m) * bytes ≤ 140737488355328) (hbase : base ≤ w.heap.size)
    (h : ∀ v' w', w'.ownsRow base e size v' (n + m) (xs ++ news) → w.grownBy w' v.ownBlock → (v' = .slice none 0 0 ↔ v = .slice none 0 0 ∧ m = 0) → K (a.put o.dst v') w') :
    if Region.wanted o (yielded ops a.tmps) = true then Oper.wp P o a w K Q else E := by
  rw [if_pos hw]
  exact wp_append_own w s x t ho base e i z size bytes ht hi hz hsize hby hzs hsz v n xs hs hown ad m c news hx hl hnews h1 h63 hbytes hbase h
end Go.Proofs.YtfmhdkemigpjjaaDoor.Rec
