import Derived.Test.YtdjedimjhogdoaaGreatDoorZ2
import Derived.Laws.AppendOwnNone
import Derived.Test.YtdjedimjhogdoaaGreatDoorZ10
import Derived.Test.YtdjedimjhogdoaaGreatDoorZ9
import Derived.Test.YtdjedimjhogdoaaGreatDoorZ1
import Derived.OpenShut
import Derived.SizedLaws
import Derived.Deep.SlicePairs
import Derived.Deep.RegionHeldLaw
section
namespace Go.Proofs.YtdjedimjhogdoaaGreatDoor.Rec
open Go.ChangeShapes Go.WideShapes Go.ChangeAt Go.RowKit Go.Proofs.YtdjedimjhogdoaaGreatDoor.Base Go.Proofs.YtdjedimjhogdoaaGreatDoor.Byt Go.Proofs.YtdjedimjhogdoaaGreatDoor.Txt Go.Lib
set_option linter.unusedVariables false

theorem flatR_app (a b : List (List UInt8 × List UInt8)) : flatR (a ++ b) = flatR a ++ flatR b := by simp [flatR]
theorem flatR_one (rs : List (List UInt8 × List UInt8)) : ∀ u ∈ flatR rs, u.oneCell' = true := by
  intro u hu
  obtain ⟨r, _, hr⟩ := List.mem_flatMap.1 hu
  rcases List.mem_cons.1 hr with rfl | hr
  · rfl
  · rcases List.mem_cons.1 hr with rfl | hr
    · rfl
    · cases hr
theorem append_recs {P : Program} {w : World} {ops : Array Oper} {rest : List Oper} {o : Oper} {a : Act} {Q : Exit → Act → World → Prop} (hgd : o.guard = none) (s x : Operand) (t : TypeId)
    (ho : o.op = .call { callee := .builtin .append, args := #[s, x], argTypes := #[t, t] })
    (base : Nat) (e : TypeId) (i : TypeInfo) (z : Value) (ht : P.underlying t = some (.slice e)) (hi : P.info? e = some i) (hz : i.zero = some z) (hsize : i.size = 2) (hby : i.bytes = 32) (hzs : z.cells.size = 2)
    (v : Value) (n : Nat) (xs : List (List UInt8 × List UInt8)) (hs : a.eval s = v) (hown : w.ownsRow base e 2 v n (flatR xs))
    (p : Option Addr) (m c : Nat) (rs : List (List UInt8 × List UInt8)) (hx : a.eval x = .slice p m c) (hb : RecsAt w p m rs) (hsum : (n + m) * 32 ≤ 140737488355328) (hbase : base ≤ w.heap.size)
    (h : ∀ v' w', w'.ownsRow base e 2 v' (n + m) (flatR (xs ++ rs)) → w.grownBy w' v.ownBlock → wpList P ops Q rest (a.put o.dst v') w') : wpList P ops Q (o :: rest) a w := by
  have hl := hb.1
  rcases p with _ | ad
  · have hm : m = 0 := by
      rcases Nat.eq_zero_or_pos m with h0 | h0
      · exact h0
      · obtain ⟨_, _, he, _⟩ := hb.2 h0
        cases he
    subst hm
    obtain rfl : rs = [] := List.eq_nil_of_length_eq_zero hl
    have hrun : (Builtin.append_ #[t, t] o.type #[v, .slice none 0 c]).run P w = .ok v w := by
      rcases hown.2 with ⟨rfl, rfl⟩ | ⟨g, cap, cur, rfl, _, _, hnc, _⟩
      · simp [Builtin.append_, run_underlying ht, sizeOf, typeInfo, hi, Builtin.lenOf, Builtin.firstCells]
      · simp [Builtin.append_, run_underlying ht, sizeOf, typeInfo, hi, Builtin.lenOf, Builtin.firstCells, hnc, storeCells]
    refine wpList_plain hgd fun K hK => ?_
    unfold Oper.wp
    simp [execOp, ho, resolve, invoke, builtin, hs, hx, hrun, Result.andThen]
    exact hK _ _ (h v w (by simpa using hown) (World.grownBy.refl w _))
  · refine wpList_append_own w hgd s x t ho base e i z 2 32 ht hi hz hsize hby hzs (by decide) v n (flatR xs) hs hown ad m c (flatR rs) hx (by rw [flatR_length, hl]; omega) ?_ (flatR_one rs) (by unfold maxLen; omega) hsum hbase ?_
    · intro j u hj
      have hjl : j < 2 * m := by
        have := (List.getElem?_eq_some_iff.1 hj).1
        rw [flatR_length, hl] at this
        exact this
      obtain ⟨b, off, he, _, hc⟩ := hb.2 (by omega)
      cases he
      obtain ⟨c0, c1⟩ := hc (j / 2) (by omega)
      obtain ⟨g0, g1⟩ := flatR_get rs (j / 2) (by omega)
      rw [WideShapes.add_plain]
      rcases Nat.mod_two_eq_zero_or_one j with hj2 | hj2
      · have e : j = 2 * (j / 2) := by omega
        rw [e] at hj
        rw [g0] at hj
        cases hj
        rw [show off + j = off + 2 * (j / 2) by omega]
        exact c0
      · have e : j = 2 * (j / 2) + 1 := by omega
        rw [e] at hj
        rw [g1] at hj
        cases hj
        rw [show off + j = off + 2 * (j / 2) + 1 by omega]
        exact c1
    · intro v' w' h1 h2 _
      rw [← flatR_app] at h1
      exact h v' w' h1 h2
end Go.Proofs.YtdjedimjhogdoaaGreatDoor.Rec
end
section
namespace Go.Proofs.YtdjedimjhogdoaaGreatDoor.Mem
open Go.ChangeShapes Go.WideShapes Go.ChangeAt Go.RowKit Go.Proofs.YtdjedimjhogdoaaGreatDoor.Base Go.Proofs.YtdjedimjhogdoaaGreatDoor.Byt Go.Proofs.YtdjedimjhogdoaaGreatDoor.Txt Go.Proofs.YtdjedimjhogdoaaGreatDoor.Bk Go.Proofs.YtdjedimjhogdoaaGreatDoor.Hp Go.Proofs.YtdjedimjhogdoaaGreatDoor.Block Go.Proofs.YtdjedimjhogdoaaGreatDoor.Attr Go.Proofs.YtdjedimjhogdoaaGreatDoor.Rec Go.Lib
set_option linter.unusedVariables false
set_option maxRecDepth 100000

set_option linter.unusedSectionVars false

theorem rows_apart {w : World} {B B' : Nat} {e e' : TypeId} {k k' : Nat} {v v' : Value} {n n' : Nat} {xs xs' : List Value} (h : w.ownsRow B e k v n xs) (h' : w.ownsRow B' e' k' v' n' xs') (he : e ≠ e') : ∀ b, v.ownBlock = some b → v'.ownBlock ≠ some b := by
  intro b hb hb'
  rcases h.2 with ⟨rfl, _⟩ | ⟨g, cap, cur, rfl, _, hg, _⟩
  · simp [Value.ownBlock] at hb
  rcases h'.2 with ⟨rfl, _⟩ | ⟨g', cap', cur', rfl, _, hg', _⟩
  · simp [Value.ownBlock] at hb'
  simp only [Value.ownBlock, Option.some.injEq] at hb hb'
  subst hb
  subst hb'
  rw [hg] at hg'
  cases hg'
  exact he rfl
theorem recs_lt {w : World} {p : Option Addr} {m : Nat} {rs : RecL} (h : RecsAt w p m rs) (h0 : 0 < m) {y : Addr} (hy : p = some y) : y.block < w.heap.size := by
  obtain ⟨b, o, he, hb, _⟩ := h.2 h0
  rw [hy] at he
  cases he
  exact hb
theorem recs_kept {S : Nat → Prop} {w w' : World} {p : Option Addr} {m : Nat} {rs : RecL} (h : RecsAt w p m rs) (hk : Kept S w w') (hn : 0 < m → ∀ a, p = some a → ¬ S a.block) : RecsAt w' p m rs := by
  refine ⟨h.1, fun h0 => ?_⟩
  obtain ⟨b, o, rfl, hb, hc⟩ := h.2 h0
  have hs := hk.block b hb (hn h0 _ rfl)
  refine ⟨b, o, rfl, Nat.lt_of_lt_of_le hb hk.size, fun i hi => ?_⟩
  have e : ∀ j, w'.cell? ⟨b, j, none⟩ = w.cell? ⟨b, j, none⟩ := fun j => by simp only [World.cell?, hs]
  rw [e, e]
  exact hc i hi
/-- a bytes were read; since w0 -/
structure RRd (w0 w : World) (bs : List UInt8) (a : Nat) (s : RS) (vo : Value) (xs : List MP) (vg : Value) (q : Option Addr) (n c : Nat) (nm lk : List UInt8) (hx hl hk : Bool) : Prop where
  bel : Below w0.heap.size w0 w
  row : w.ownsRow w0.heap.size 37 8 vo xs.length (flatM xs)
  out : xs.map MP.m = s.out
  bodies : ∀ x ∈ xs, BodyAt w x
  glob : w.ownsRow w0.heap.size 53 2 vg s.glob.length (flatR s.glob)
  own : RecsAt w q n s.own
  offX : ∀ x ∈ xs, 0 < x.m.body.length → ∀ z, x.p = some z → vo.ownBlock ≠ some z.block ∧ vg.ownBlock ≠ some z.block
  offQ : 0 < n → ∀ z, q = some z → vo.ownBlock ≠ some z.block ∧ vg.ownBlock ≠ some z.block
  name : s.name = if hl then some nm else none
  link : s.link = if hk then some lk else none
  hasX : s.hasX = hx
  lenG : ∀ r ∈ s.glob, r.2.length ≤ 1048576
  lenO : ∀ r ∈ s.own, r.2.length ≤ 1048576
  lenN : nm.length ≤ 1048576 ∧ lk.length ≤ 1048576 ∧ n ≤ 1048576
  gsz : s.glob.length ≤ a
  full : s.out.length ≤ 4096
  le : a ≤ bs.length
  read : readFrom (bs.drop a) a s = membersD bs
section
variable {w0 w w' : World} {bs : List UInt8} {a : Nat} {s : RS} {vo : Value} {xs : List MP} {vg : Value} {q : Option Addr} {n c : Nat} {nm lk : List UInt8} {hx hl hk : Bool}
theorem rrd_start (w : World) (bs : List UInt8) : RRd w w bs 0 startS (.slice none 0 0) [] (.slice none 0 0) none 0 0 [] [] false false false where
  bel := Below.refl _ _
  row := World.ownsRow_nil _ _ _ _
  out := rfl
  bodies := fun x hx => by cases hx
  glob := World.ownsRow_nil _ _ _ _
  own := ⟨rfl, fun h => absurd h (by omega)⟩
  offX := fun x hx => by cases hx
  offQ := fun h => absurd h (by omega)
  name := rfl
  link := rfl
  hasX := rfl
  lenG := fun r hr => by cases hr
  lenO := fun r hr => by cases hr
  lenN := ⟨Nat.zero_le _, Nat.zero_le _, Nat.zero_le _⟩
  gsz := Nat.zero_le _
  full := Nat.zero_le _
  le := Nat.zero_le _
  read := rfl
theorem RRd.below (h : RRd w0 w bs a s vo xs vg q n c nm lk hx hl hk) (hb : Below w.heap.size w w') : RRd w0 w' bs a s vo xs vg q n c nm lk hx hl hk where
  bel := h.bel.trans (hb.mono h.bel.size)
  row := row_below h.row hb
  out := h.out
  bodies := fun x hx => (h.bodies x hx).below hb
  glob := row_below h.glob hb
  own := h.own.below hb
  offX := h.offX
  offQ := h.offQ
  name := h.name
  link := h.link
  hasX := h.hasX
  lenG := h.lenG
  lenO := h.lenO
  lenN := h.lenN
  gsz := h.gsz
  full := h.full
  le := h.le
  read := h.read
theorem RRd.len (h : RRd w0 w bs a s vo xs vg q n c nm lk hx hl hk) : xs.length = s.out.length := by have := congrArg List.length h.out; simpa using this
/-- a fault -/
theorem RRd.fault (h : RRd w0 w bs a s vo xs vg q n c nm lk hx hl hk) {e : Int} (hs : stepD (bs.drop a) s = .fault e) {wa wz : World} (hb : Below wa.heap.size wa wz) :
    ReadD wa bs (.returned (.tuple #[.slice none 0 0, .agg #[.int .i64 e, .int .i64 (a : Int)]])) wz := by
  have hm : membersD bs = ([], e, a) := by rw [← h.read, readFrom_fault hs]
  refine ⟨none, 0, [], ?_, Nat.le_refl _, by decide, ?_, mems_nil _ _, hb⟩
  · rw [hm]; rfl
  · rw [hm]; rfl
/-- the end -/
theorem RRd.done (h : RRd w0 w bs a s vo xs vg q n c nm lk hx hl hk) (hs : stepD (bs.drop a) s = .done) {g : Nat} (hg : g < w0.heap.size) (hX : Blk w g 28 #[.int .i64 0, .int .i64 0]) {wa wz : World} (hk : Kept (oneB g) w wz) (hb : Below wa.heap.size wa wz) :
    ReadD wa bs (.returned (.tuple #[vo, .agg #[.int .i64 0, .int .i64 0]])) wz := by
  have hm : membersD bs = (s.out, 0, 0) := by rw [← h.read, readFrom_done hs]
  obtain ⟨p, c, rfl, h1, h2, h3⟩ := mems_own (ownsRow_kept h.row hk (fun k hk e => by
    have h1 := (World.ownsRow.lt h.row k hk).1
    have h2 : k = g := e
    omega)) (fun x hx => (h.bodies x hx).kept hk (fun h0 y hy e => bat_off_blk (h.bodies x hx).bat hX (fun i z hz => by rcases i with _ | _ | i <;> simp at hz) h0 hy e))
  refine ⟨p, c, xs, ?_, h1, h2, ?_, h3, hb⟩
  · rw [hm]; rfl
  · rw [hm]; exact h.out
theorem RRd.next_le (h : RRd w0 w bs a s vo xs vg q n c nm lk hx hl hk) {k : Nat} {s' : RS} (hs : stepD (bs.drop a) s = .next k s') : a + k ≤ bs.length ∧ 512 ≤ k ∧ readFrom (bs.drop (a + k)) (a + k) s' = membersD bs := by
  obtain ⟨h1, h2⟩ := step_next hs
  rw [List.length_drop] at h2
  have := h.le
  refine ⟨by omega, h1, ?_⟩
  rw [← h.read, readFrom_next hs, List.drop_drop]
/-- a long name -/
theorem RRd.nextL (h : RRd w0 w bs a s vo xs vg q n c nm lk hx hl hk) {k : Nat} {t : List UInt8} (hs : stepD (bs.drop a) s = .next k { s with name := some t }) (ht : t.length ≤ 1048576) :
    RRd w0 w bs (a + k) { s with name := some t } vo xs vg q n c t lk hx true hk :=
  { h with name := rfl, lenN := ⟨ht, h.lenN.2⟩, le := (h.next_le hs).1, read := (h.next_le hs).2.2, gsz := Nat.le_trans h.gsz (Nat.le_add_right _ _) }
/-- a long link -/
theorem RRd.nextK (h : RRd w0 w bs a s vo xs vg q n c nm lk hx hl hk) {k : Nat} {t : List UInt8} (hs : stepD (bs.drop a) s = .next k { s with link := some t }) (ht : t.length ≤ 1048576) :
    RRd w0 w bs (a + k) { s with link := some t } vo xs vg q n c nm t hx hl true :=
  { h with link := rfl, lenN := ⟨h.lenN.1, ht, h.lenN.2.2⟩, le := (h.next_le hs).1, read := (h.next_le hs).2.2, gsz := Nat.le_trans h.gsz (Nat.le_add_right _ _) }
/-- records of one's own -/
theorem RRd.nextX (h : RRd w0 w bs a s vo xs vg q n c nm lk hx hl hk) {k : Nat} {rs : RecL} (hs : stepD (bs.drop a) s = .next k { s with hasX := true, own := rs }) (hr : ∀ r ∈ rs, r.2.length ≤ 1048576) (hrl : rs.length ≤ 1048576)
    {w1 : World} (h1 : RRd w0 w1 bs a s vo xs vg q n c nm lk hx hl hk) {q' : Option Addr} {c' : Nat} (hq : RecsAt w q' rs.length rs) (hnew : ∀ z, q' = some z → w1.heap.size ≤ z.block) :
    RRd w0 w bs (a + k) { s with hasX := true, own := rs } vo xs vg q' rs.length c' nm lk true hl hk :=
  { h with
    own := hq
    offQ := fun _ z hz => ⟨fun e => by have := (World.ownsRow.lt h1.row _ e).2; have := hnew z hz; omega, fun e => by have := (World.ownsRow.lt h1.glob _ e).2; have := hnew z hz; omega⟩
    hasX := rfl
    lenO := hr
    lenN := ⟨h.lenN.1, h.lenN.2.1, hrl⟩
    le := (h.next_le hs).1
    read := (h.next_le hs).2.2
    gsz := Nat.le_trans h.gsz (Nat.le_add_right _ _) }
/-- global records -/
theorem RRd.nextG (h : RRd w0 w bs a s vo xs vg q n c nm lk hx hl hk) {k : Nat} {rs : RecL} (hs : stepD (bs.drop a) s = .next k { s with glob := s.glob ++ rs }) (hr : ∀ r ∈ rs, r.2.length ≤ 1048576) (hrl : rs.length ≤ k)
    {vg' : Value} (hrow : w'.ownsRow w0.heap.size 53 2 vg' (s.glob ++ rs).length (flatR (s.glob ++ rs))) (hg : w.grownBy w' vg.ownBlock) (hn : NewOr w vg vg') :
    RRd w0 w' bs (a + k) { s with glob := s.glob ++ rs } vo xs vg' q n c nm lk hx hl hk := by
  have hK : Kept (fun b => vg.ownBlock = some b) w w' := (Kept.refl _ w).grown hg (fun k hk => .inr hk)
  have lt : ∀ {b : Nat}, vg'.ownBlock = some b → b < w.heap.size → vg.ownBlock = some b := fun hb hlt => by
    rcases hn _ hb with h | h
    · exact h
    · omega
  exact
  { bel := h.bel.trans (hK.below h.bel.size (fun k hk => (World.ownsRow.lt h.glob _ hk).1))
    row := ownsRow_kept h.row hK (rows_apart h.row h.glob (by decide))
    out := h.out
    bodies := fun x hx => (h.bodies x hx).kept hK (fun h0 z hz => (h.offX x hx h0 z hz).2)
    glob := hrow
    own := recs_kept h.own hK (fun h0 z hz => (h.offQ h0 z hz).2)
    offX := fun x hx h0 z hz => ⟨(h.offX x hx h0 z hz).1, fun e => (h.offX x hx h0 z hz).2 (lt e (bat_lt (h.bodies x hx).bat h0 hz))⟩
    offQ := fun h0 z hz => ⟨(h.offQ h0 z hz).1, fun e => (h.offQ h0 z hz).2 (lt e (recs_lt h.own h0 hz))⟩
    name := h.name
    link := h.link
    hasX := h.hasX
    lenG := fun r hr' => by
      rcases List.mem_append.1 hr' with hr' | hr'
      · exact h.lenG r hr'
      · exact hr r hr'
    lenO := h.lenO
    lenN := h.lenN
    gsz := by have := h.gsz; show (s.glob ++ rs).length ≤ _; rw [List.length_append]; omega
    full := h.full
    le := (h.next_le hs).1
    read := (h.next_le hs).2.2 }
/-- a member -/
theorem RRd.nextM (h : RRd w0 w bs a s vo xs vg q n c nm lk hx hl hk) {k : Nat} {y : MP} (hs : stepD (bs.drop a) s = .next k { s with out := s.out ++ [y.m], own := [], name := none, link := none, hasX := false }) (hf : s.out.length < 4096)
    (hy : BodyAt w y) (hyo : 0 < y.m.body.length → ∀ z, y.p = some z → vo.ownBlock ≠ some z.block ∧ vg.ownBlock ≠ some z.block)
    {vo' : Value} (hrow : w'.ownsRow w0.heap.size 37 8 vo' (xs ++ [y]).length (flatM (xs ++ [y]))) (hg : w.grownBy w' vo.ownBlock) (hn : NewOr w vo vo') :
    RRd w0 w' bs (a + k) { s with out := s.out ++ [y.m], own := [], name := none, link := none, hasX := false } vo' (xs ++ [y]) vg none 0 0 [] [] false false false := by
  have hK : Kept (fun b => vo.ownBlock = some b) w w' := (Kept.refl _ w).grown hg (fun k hk => .inr hk)
  have lt : ∀ {b : Nat}, vo'.ownBlock = some b → b < w.heap.size → vo.ownBlock = some b := fun hb hlt => by
    rcases hn _ hb with h | h
    · exact h
    · omega
  have all : ∀ x ∈ xs ++ [y], BodyAt w x ∧ (0 < x.m.body.length → ∀ z, x.p = some z → vo.ownBlock ≠ some z.block ∧ vg.ownBlock ≠ some z.block) := fun x hx => by
    rcases List.mem_append.1 hx with hx | hx
    · exact ⟨h.bodies x hx, h.offX x hx⟩
    · rw [List.mem_singleton.1 hx]
      exact ⟨hy, hyo⟩
  exact
  { bel := h.bel.trans (hK.below h.bel.size (fun k hk => (World.ownsRow.lt h.row _ hk).1))
    row := hrow
    out := by rw [List.map_append, h.out]; rfl
    bodies := fun x hx => (all x hx).1.kept hK (fun h0 z hz => ((all x hx).2 h0 z hz).1)
    glob := ownsRow_kept h.glob hK (fun b hb hb' => rows_apart h.row h.glob (by decide) b hb' hb)
    own := ⟨rfl, fun h => absurd h (by omega)⟩
    offX := fun x hx h0 z hz => ⟨fun e => ((all x hx).2 h0 z hz).1 (lt e (bat_lt (all x hx).1.bat h0 hz)), ((all x hx).2 h0 z hz).2⟩
    offQ := fun h => absurd h (by omega)
    name := rfl
    link := rfl
    hasX := rfl
    lenG := h.lenG
    lenO := fun r hr => by cases hr
    lenN := ⟨Nat.zero_le _, Nat.zero_le _, Nat.zero_le _⟩
    gsz := Nat.le_trans h.gsz (Nat.le_add_right _ _)
    full := by show (s.out ++ [y.m]).length ≤ _; rw [List.length_append]; simp only [List.length_cons, List.length_nil]; omega
    le := (h.next_le hs).1
    read := (h.next_le hs).2.2 }
end
/-! ### append of records, with where the row lies behind it -/
theorem append_recs_new {w : World} {ops : Array Oper} {rest : List Oper} {o : Oper} {a : Act} {Q : Exit → Act → World → Prop} (hgd : o.guard = none) (s x : Operand)
    (ho : o.op = .call { callee := .builtin .append, args := #[s, x], argTypes := #[73, 73] })
    (base : Nat) (v : Value) (n : Nat) (xs : RecL) (hn : xs.length = n) (hs : a.eval s = v) (hown : w.ownsRow base 53 2 v n (flatR xs))
    (p : Option Addr) (m c : Nat) (rs : RecL) (hx : a.eval x = .slice p m c) (hb : RecsAt w p m rs) (hsum : (n + m) * 32 ≤ 140737488355328) (hbase : base ≤ w.heap.size)
    (h : ∀ v' w', w'.ownsRow base 53 2 v' (xs ++ rs).length (flatR (xs ++ rs)) → w.grownBy w' v.ownBlock → NewOr w v v' → wpList Tryz.prog ops Q rest (a.put o.dst v') w') : wpList Tryz.prog ops Q (o :: rest) a w := by
  obtain ⟨i0, hi, hz0, hz1, hz2⟩ := info_parts infoRec
  have hl := hb.1
  rcases p with _ | ad
  · have hm : m = 0 := by
      rcases Nat.eq_zero_or_pos m with h0 | h0
      · exact h0
      · obtain ⟨_, _, he, _⟩ := hb.2 h0
        cases he
    subst hm
    obtain rfl : rs = [] := List.eq_nil_of_length_eq_zero hl
    have hrun : (Builtin.append_ #[73, 73] o.type #[v, .slice none 0 c]).run Tryz.prog w = .ok v w := by
      rcases hown.2 with ⟨rfl, rfl⟩ | ⟨g, cap, cur, rfl, _, _, hnc, _⟩
      · simp [Builtin.append_, run_underlying Tryz.underlying73, sizeOf, typeInfo, hi, Builtin.lenOf, Builtin.firstCells]
      · simp [Builtin.append_, run_underlying Tryz.underlying73, sizeOf, typeInfo, hi, Builtin.lenOf, Builtin.firstCells, hnc, storeCells]
    refine wpList_plain hgd fun K hK => ?_
    unfold Oper.wp
    simp [execOp, ho, resolve, invoke, builtin, hs, hx, hrun, Result.andThen]
    exact hK _ _ (h v w (by rw [List.append_nil, hn]; exact hown) (World.grownBy.refl w _) (NewOr.refl w v))
  · obtain ⟨v', w', hr, h2, h3, h4⟩ := run_append_newS (P := Tryz.prog) base 73 o.type 53 i0 _ 2 32 Tryz.underlying73 hi hz0 hz1 hz2 rfl (by decide) v n (flatR xs) hown ad m c (flatR rs) (by rw [flatR_length, hl]; omega) (by
      intro j u hj
      have hjl : j < 2 * m := by
        have := (List.getElem?_eq_some_iff.1 hj).1
        rw [flatR_length, hl] at this
        exact this
      obtain ⟨b, off, he, _, hc⟩ := hb.2 (by omega)
      cases he
      obtain ⟨c0, c1⟩ := hc (j / 2) (by omega)
      obtain ⟨g0, g1⟩ := flatR_get rs (j / 2) (by omega)
      rw [Lib.add_plain]
      rcases Nat.mod_two_eq_zero_or_one j with hj2 | hj2
      · have e : j = 2 * (j / 2) := by omega
        rw [e] at hj
        rw [g0] at hj
        cases hj
        rw [show off + j = off + 2 * (j / 2) by omega]
        exact c0
      · have e : j = 2 * (j / 2) + 1 := by omega
        rw [e] at hj
        rw [g1] at hj
        cases hj
        rw [show off + j = off + 2 * (j / 2) + 1 by omega]
        exact c1) (flatR_one rs) (by unfold maxLen; omega) hsum hbase
    refine wpList_plain hgd fun K hK => ?_
    unfold Oper.wp
    simp [execOp, ho, resolve, invoke, builtin, hs, hx, hr, Result.andThen]
    rw [← flatR_app, show n + m = (xs ++ rs).length by rw [List.length_append, hn, hl]] at h2
    exact hK _ _ (h v' w' h2 h3 h4)
end Go.Proofs.YtdjedimjhogdoaaGreatDoor.Mem
end
section
namespace Go.Proofs.YtdjedimjhogdoaaGreatDoor.Mem
open Go.ChangeShapes Go.WideShapes Go.ChangeAt Go.RowKit Go.Proofs.YtdjedimjhogdoaaGreatDoor.Base Go.Proofs.YtdjedimjhogdoaaGreatDoor.Byt Go.Proofs.YtdjedimjhogdoaaGreatDoor.Txt Go.Proofs.YtdjedimjhogdoaaGreatDoor.Bk Go.Proofs.YtdjedimjhogdoaaGreatDoor.Hp Go.Proofs.YtdjedimjhogdoaaGreatDoor.Head Go.Proofs.YtdjedimjhogdoaaGreatDoor.Num Go.Proofs.YtdjedimjhogdoaaGreatDoor.Path Go.Proofs.YtdjedimjhogdoaaGreatDoor.Block Go.Proofs.YtdjedimjhogdoaaGreatDoor.Rec Go.Lib
set_option linter.unusedVariables false
set_option maxRecDepth 100000

/-- k of them are laid -/
structure OwnI (w wr : World) (xs : List MP) (k : Nat) (o : Value) (ys : List MP) : Prop where
  bel : Below w.heap.size w wr
  row : wr.ownsRow w.heap.size 37 8 o ys.length (flatM ys)
  len : ys.length = k
  same : ys.map MP.m = (xs.take k).map MP.m
  bodies : ∀ y ∈ ys, BodyAt wr y
  off : ∀ y ∈ ys, 0 < y.m.body.length → ∀ z, y.p = some z → o.ownBlock ≠ some z.block
section
variable {w wr w' : World} {xs ys : List MP} {k : Nat} {o : Value}
theorem OwnI.below (h : OwnI w wr xs k o ys) (hb : Below wr.heap.size wr w') : OwnI w w' xs k o ys where
  bel := h.bel.trans (hb.mono h.bel.size)
  row := row_below h.row hb
  len := h.len
  same := h.same
  bodies := fun y hy => (h.bodies y hy).below hb
  off := h.off
theorem OwnI.add (h : OwnI w wr xs k o ys) (hk : k < xs.length) {y : MP} (hy : y.m = (xs.getD k zeroP).m) (hb : BodyAt wr y) (ho : 0 < y.m.body.length → ∀ z, y.p = some z → o.ownBlock ≠ some z.block)
    {o' : Value} (hrow : w'.ownsRow w.heap.size 37 8 o' (ys ++ [y]).length (flatM (ys ++ [y]))) (hg : wr.grownBy w' o.ownBlock) (hn : NewOr wr o o') : OwnI w w' xs (k + 1) o' (ys ++ [y]) := by
  have hK : Kept (fun b => o.ownBlock = some b) wr w' := (Kept.refl _ wr).grown hg (fun k hk => .inr hk)
  have lt : ∀ {b : Nat}, o'.ownBlock = some b → b < wr.heap.size → o.ownBlock = some b := fun hb hlt => by
    rcases hn _ hb with h | h
    · exact h
    · omega
  have all : ∀ x ∈ ys ++ [y], BodyAt wr x ∧ (0 < x.m.body.length → ∀ z, x.p = some z → o.ownBlock ≠ some z.block) := fun x hx => by
    rcases List.mem_append.1 hx with hx | hx
    · exact ⟨h.bodies x hx, h.off x hx⟩
    · rw [List.mem_singleton.1 hx]
      exact ⟨hb, ho⟩
  exact
  { bel := h.bel.trans (hK.below h.bel.size (fun k hk => (World.ownsRow.lt h.row _ hk).1))
    row := hrow
    len := by rw [List.length_append, h.len]; rfl
    same := by rw [List.map_append, h.same, takeP_succ xs k hk, ← hy]; rfl
    bodies := fun x hx => (all x hx).1.kept hK (fun h0 z hz => (all x hx).2 h0 z hz)
    off := fun x hx h0 z hz e => (all x hx).2 h0 z hz (lt e (bat_lt (all x hx).1.bat h0 hz)) }
end
def OwnPost (w : World) (n : Nat) (xs : List MP) (e : Ending) (w' : World) : Prop := ∃ q d ys, e = .returned (.slice q n d) ∧ ys.map MP.m = xs.map MP.m ∧ MemsAt w' q n ys ∧ Below w.heap.size w w'
set_option maxHeartbeats 4000000 in
theorem rown_any (p : Option Addr) (n c : Nat) (xs : List MP) (w : World) (h : MemsAt w p n xs) (hn : n ≤ 1000) (hR : ∀ x ∈ xs, x.m.body.length ≤ 140737488351232) :
    Calls Tryz.prog 19 #[.slice p n c] w (OwnPost w n xs) := by
  obtain ⟨i0, hi, hz0, hz1, hz2⟩ := info_parts infoU8
  have HI := Lib.hid hi
  have HZ0 := Lib.hid hz0
  have HZ1 := Lib.hid hz1
  have HZ2 := Lib.hid hz2
  have HM := Lib.hid h
  have HL := Lib.hid h.1
  have HR := Lib.hid hR
  clear hi hz0 hz1 hz2 h hR
  go_enter Tryz.func19, Tryz.ntmps19
  go_wp2_with fail
  go_loopw [3, 4] (fun o i wr => ∃ (k : Nat) (ys : List MP) (vo : Value), k ≤ n ∧ vo = o ∧ i = .int .i64 (k : Int) ∧ Hid (OwnI w wr xs k vo ys)) (fun _ i _ => n - (RowKit.intOf i).toNat)
  case atStart => exact ⟨0, [], _, Nat.zero_le _, rfl, rfl, Lib.hid ⟨Below.refl _ _, World.ownsRow_nil _ _ _ _, rfl, rfl, fun x hx => (by cases hx), fun x hx => (by cases hx)⟩⟩
  case round =>
    obtain ⟨k, ys, o, hk, rfl, rfl, hO⟩ := hrel
    by_cases hlt : k < n
    · have hkl : k < xs.length := by rw [HL.out]; exact hlt
      obtain ⟨b, o', rfl, hb, hB, hc⟩ := (HM.out.below hO.out.bel).cells8 hlt
      obtain ⟨v, hv⟩ : ∃ v, xs.getD k zeroP = v := ⟨_, rfl⟩
      rw [hv] at hB hc
      have HV := Lib.hid hv
      have HB := Lib.hid hB
      have HKL := Lib.hid hkl
      obtain ⟨c0, c1, c2, c3, c4, c5, c6, c7⟩ := hc
      have hltz : (k : Int) < (n : Int) := by omega
      clear hv hB hkl
      go_upto_region 6 with fail
      obtain ⟨w1, hw⟩ : ∃ w1, wr.alloc (.cells #[.string (str v.m.path), .string (str v.m.target), .int .u8 (v.m.kind.toNat : Int), .int .i64 v.m.mode, .int .i64 v.m.uid, .int .i64 v.m.gid, .int .i64 v.m.time, .slice v.p v.m.body.length v.c] 37) = w1 := ⟨_, rfl⟩
      have hX : Blk w1 wr.heap.size 37 #[.string (str v.m.path), .string (str v.m.target), .int .u8 (v.m.kind.toNat : Int), .int .i64 v.m.mode, .int .i64 v.m.uid, .int .i64 v.m.gid, .int .i64 v.m.time, .slice v.p v.m.body.length v.c] := by rw [← hw]; exact Blk.new wr _ _
      have hS : Below wr.heap.size wr w1 := by rw [← hw]; exact (Below.refl _ _).alloc (Nat.le_refl _) _
      have x7 := (hX.alloc (.cells #[] 5)).cell 7
      simp only [List.getElem?_toArray, List.getElem?_cons_zero, List.getElem?_cons_succ] at x7
      have HX := Lib.hid hX
      have H1 := Lib.hid hS
      have HB1 := Lib.hid (HB.out.below hS)
      rw [hw]
      clear hw hX hS c0 c1 c2 c3 c4 c5 c6 c7 hb
      go_wp2_with (at_builtin; refine append_bytes rfl _ _ 22 rfl w1.heap.size 5 i0 Tryz.underlying22 HI.out HZ0.out HZ1.out HZ2.out _ 0 [] rfl (World.ownsRow_made w1 #[] 0 (Nat.le_refl _) (by decide) rfl) v.p v.m.body.length v.c v.m.body rfl (HB1.out.bat.alloc _) rfl ?d2 ?d3 ?_)
      case d2 => have := HR.out _ (getP_mem xs k HKL.out); rw [HV.out] at this; omega
      case d3 => simp
      intro v2 w2 hown hgrow
      have ho2 : OwnB w2 w1.heap.size v2 v.m.body.length v.m.body := by simpa [OwnB] using hown
      have hk2 : Kept noneB w1 w2 := (((Kept.refl noneB w1).alloc _)).grown hgrow (by intro k hk; simp [Value.ownBlock] at hk; omega)
      have h12 : Below w1.heap.size w1 w2 := hk2.below (Nat.le_refl _) (fun _ h => h.elim)
      obtain ⟨p2, c2, rfl, hle2, hmx2, hb2, _, hat2⟩ := ho2.slice
      have hX2 := HX.out.below h12 HX.out.lt
      have y7 := hX2.cell 7
      have f7 := hX2.frozen 7
      simp only [List.getElem?_toArray, List.getElem?_cons_zero, List.getElem?_cons_succ] at y7
      have H2 := Lib.hid (H1.out.trans (h12.mono H1.out.size))
      have HB2 := Lib.hid hb2
      have HAT := Lib.hid hat2
      have HX2 := Lib.hid hX2
      clear hown hgrow ho2 hk2 h12 hb2 hat2 hX2 x7
      go_upto_region 7 with fail
      obtain ⟨w3, hw⟩ : ∃ w3, w2.setCell ⟨wr.heap.size, 7, none⟩ (.slice p2 v.m.body.length c2) = w3 := ⟨_, rfl⟩
      have hX : Blk w3 wr.heap.size 37 #[.string (str v.m.path), .string (str v.m.target), .int .u8 (v.m.kind.toNat : Int), .int .i64 v.m.mode, .int .i64 v.m.uid, .int .i64 v.m.gid, .int .i64 v.m.time, .slice p2 v.m.body.length c2] := by rw [← hw]; exact HX2.out.set 7 _ (by decide : 7 < 8)
      have hk3 : Kept (oneB wr.heap.size) w2 w3 := by rw [← hw]; exact (Kept.refl (oneB wr.heap.size) w2).setCell (a := ⟨wr.heap.size, 7, none⟩) (.inr rfl) _
      have hb3 : BAt w3 p2 v.m.body.length v.m.body := HB2.out.kept hk3 (fun _ y hy e => by
        have h1 := (HAT.out y hy).1
        have h2 : y.block = wr.heap.size := e
        have h3 := HX.out.lt
        omega)
      have H3 : Hid (Below wr.heap.size wr w3) := Lib.hid (by rw [← hw]; exact H2.out.setCell (p := ⟨wr.heap.size, 7, none⟩) (Nat.le_refl _) _)
      have z0 := hX.cell 0
      have z1 := hX.cell 1
      have z2 := hX.cell 2
      have z3 := hX.cell 3
      have z4 := hX.cell 4
      have z5 := hX.cell 5
      have z6 := hX.cell 6
      have z7 := hX.cell 7
      simp only [List.getElem?_toArray, List.getElem?_cons_zero, List.getElem?_cons_succ] at z0 z1 z2 z3 z4 z5 z6 z7
      rw [hw]
      have HO3 := Lib.hid (hO.out.below H3.out)
      have HBY : Hid (BodyAt w3 ⟨v.m, p2, c2⟩) := Lib.hid ⟨hb3, hle2, hmx2⟩
      have HOFF : Hid (0 < v.m.body.length → ∀ z, p2 = some z → o.ownBlock ≠ some z.block) := Lib.hid (fun _ z hz e => by
        have h1 := (HAT.out z hz).1
        have h2 := (World.ownsRow.lt hO.out.row _ e).2
        have h3 := H1.out.size
        omega)
      clear hw hX hk3 hb3 y7 f7
      go_wp2_with (at_builtin; refine append_member rfl _ _ rfl w.heap.size o ys rfl (row_below HO3.out.row ((Below.refl _ _).alloc (Nat.le_refl _) _)) w3.heap.size 1 ⟨v.m, p2, c2⟩ rfl (Blk.new w3 _ _) ?e1 ?e2 ?_)
      case e1 => have := HO3.out.len; omega
      case e2 => have := HO3.out.bel.size; omega
      intro v4 w4 hrow hg hnw
      have h34 : Below w3.heap.size w3 (w3.alloc (.cells #[.string (str v.m.path), .string (str v.m.target), .int .u8 (v.m.kind.toNat : Int), .int .i64 v.m.mode, .int .i64 v.m.uid, .int .i64 v.m.gid, .int .i64 v.m.time, .slice p2 v.m.body.length c2] 37)) := (Below.refl _ _).alloc (Nat.le_refl _) _
      rw [show ys.length + 1 = (ys ++ [(⟨v.m, p2, c2⟩ : MP)]).length by simp] at hrow
      have HO4 : Hid (OwnI w w4 xs (k + 1) v4 (ys ++ [⟨v.m, p2, c2⟩])) := Lib.hid ((HO3.out.below h34).add (y := ⟨v.m, p2, c2⟩) HKL.out (by rw [HV.out]) (HBY.out.below h34) HOFF.out hrow hg hnw)
      clear hrow hg hnw h34 z0 z1 z2 z3 z4 z5 z6 z7
      go_wp2
      go_roundw
      case rel => exact ⟨k + 1, _, _, by omega, rfl, by go_num, HO4⟩
      case measure => simp [RowKit.intOf]; omega
    · obtain rfl : k = n := by omega
      have hks : ¬ ((k : Int) < (k : Int)) := by omega
      have hlen := hO.out.len
      obtain ⟨q, d, rfl, _, _, hm⟩ := mems_own hO.out.row hO.out.bodies
      rw [hlen] at hm ⊢
      have HMM := Lib.hid hm
      clear hm hlen
      go_wp2
      go_ret
      refine ⟨q, d, ys, rfl, ?_, HMM.out, hO.out.bel⟩
      rw [hO.out.same, List.take_of_length_le (by rw [HL.out]; exact Nat.le_refl _)]
end Go.Proofs.YtdjedimjhogdoaaGreatDoor.Mem
end
section
namespace Go.Proofs.YtdjedimjhogdoaaGreatDoor.Head
open Go.ChangeShapes Go.WideShapes Go.ChangeAt Go.RowKit Go.Proofs.YtdjedimjhogdoaaGreatDoor.Base Go.Proofs.YtdjedimjhogdoaaGreatDoor.Byt Go.Proofs.YtdjedimjhogdoaaGreatDoor.Txt Go.Proofs.YtdjedimjhogdoaaGreatDoor.Hp Go.Lib
set_option linter.unusedVariables false
set_option maxRecDepth 100000

theorem list9 {α : Type} (l : List α) (h : l.length = 9) : ∃ a b c d e f g i j, l = [a, b, c, d, e, f, g, i, j] := by
  match l, h with
  | [a, b, c, d, e, f, g, i, j], _ => exact ⟨a, b, c, d, e, f, g, i, j, rfl⟩
theorem list4 {α : Type} (l : List α) (h : l.length = 4) : ∃ a b c d, l = [a, b, c, d] := by
  match l, h with
  | [a, b, c, d], _ => exact ⟨a, b, c, d, rfl⟩
theorem list6 {α : Type} (l : List α) (h : l.length = 6) : ∃ a b c d e f, l = [a, b, c, d, e, f] := by
  match l, h with
  | [a, b, c, d, e, f], _ => exact ⟨a, b, c, d, e, f, rfl⟩
theorem cells9 : Tryz.prog.cellsOf 57 = 9 := by kernel_rfl
theorem cellsM : Tryz.prog.cellsOf 35 = 4 := by kernel_rfl
theorem cellsS : Tryz.prog.cellsOf 9 = 1 := by kernel_rfl
theorem cellsI : Tryz.prog.cellsOf 3 = 1 := by kernel_rfl
theorem cellsU : Tryz.prog.cellsOf 5 = 1 := by kernel_rfl
theorem cellsB : Tryz.prog.cellsOf 4 = 1 := by kernel_rfl
section
variable {H : Type} {enc : TypeId × Value → H} {w : World} {base : Nat} {held : Bool} {spare : Nat → Bool}
theorem head_open {v : Value} {d : DataW H} {ps : List MemPlace} (h : DataW.Trod enc Tryz.prog w base spare held 57 v d ps) :
    ∃ hv : HeadV, v = .agg (headC hv) ∧ (∀ i, (Lit.int .i64 (numH hv i)).wf = true) ∧ ∃ r, d = .agg (.lit (.string hv.name) :: .lit (.string hv.link) :: r) := by
  obtain ⟨fuel, hf⟩ := h
  obtain ⟨xs, n, rfl, hx, hl, hxl, hall⟩ := DataW.trod_struct Tryz.underlying57 hf
  rw [cells9] at hl
  obtain ⟨cs, rfl⟩ : ∃ cs, v = .agg cs := by
    cases v <;> first | exact ⟨_, rfl⟩ | (simp [Value.cells] at hl)
  obtain ⟨a, b, c, e, f, g, i, j, k, hcs⟩ := list9 cs.toList (by simpa [Value.cells] using hl)
  obtain ⟨x0, x1, x2, x3, x4, x5, rfl⟩ := list6 xs (by simpa using hxl)
  have hcells : (Value.agg cs).cells.toList = [a, b, c, e, f, g, i, j, k] := hcs
  rw [hcells] at hall
  have h0 := hall 0 _ rfl
  have h1 := hall 1 _ rfl
  have h2 := hall 2 _ rfl
  have h3 := hall 3 _ rfl
  have h4 := hall 4 _ rfl
  have h5 := hall 5 _ rfl
  simp only [List.getElem_toArray, List.getElem_cons_zero, List.getElem_cons_succ, cellsM, cellsS, cellsI, cellsU, cellsB, List.drop_zero, List.drop_succ_cons, List.take_succ_cons, List.take_zero, List.getElem?_cons_zero, List.getElem?_cons_succ] at h0 h1 h2 h3 h4 h5
  obtain ⟨s0, e0, rfl, z0⟩ := DataW.trod_string Tryz.underlying9 h0
  obtain ⟨s1, e1, rfl, z1⟩ := DataW.trod_string Tryz.underlying9 h1
  obtain ⟨k2, e2, rfl, z2⟩ := DataW.trod_int Tryz.underlying5 h2
  obtain ⟨ys, n', rfl, hy, hl', hyl, hall'⟩ := DataW.trod_struct Tryz.underlying35 h3
  obtain ⟨k4, e4, rfl, z4⟩ := DataW.trod_int Tryz.underlying3 h4
  obtain ⟨k5, e5, rfl⟩ := DataW.trod_bool Tryz.underlying4 h5
  obtain ⟨y0, y1, y2, y3, rfl⟩ := list4 ys (by simpa using hyl)
  have g0 := hall' 0 _ rfl
  have g1 := hall' 1 _ rfl
  have g2 := hall' 2 _ rfl
  have g3 := hall' 3 _ rfl
  simp only [List.getElem_toArray, List.getElem_cons_zero, List.getElem_cons_succ, cellsI, List.drop_zero, List.drop_succ_cons, List.take_succ_cons, List.take_zero, List.getElem?_cons_zero, List.getElem?_cons_succ] at g0 g1 g2 g3
  obtain ⟨m0, f0, rfl, q0⟩ := DataW.trod_int Tryz.underlying3 g0
  obtain ⟨m1, f1, rfl, q1⟩ := DataW.trod_int Tryz.underlying3 g1
  obtain ⟨m2, f2, rfl, q2⟩ := DataW.trod_int Tryz.underlying3 g2
  obtain ⟨m3, f3, rfl, q3⟩ := DataW.trod_int Tryz.underlying3 g3
  simp only [List.cons.injEq, and_true] at e0 e1 e2 e4 e5 f0 f1 f2 f3
  subst e0 e1 e2 e4 e5 f0 f1 f2 f3
  obtain ⟨k0, k1⟩ := wf8 z2
  refine ⟨⟨s0.data.toList, s1.data.toList, UInt8.ofNat k2.toNat, m0, m1, m2, m3, k4, k5⟩, ?_, fun i => ?_, ?_⟩
  · congr 1
    apply Array.toList_inj.1
    rw [hcs]
    unfold headC
    rw [str_of, str_of, show ((UInt8.ofNat k2.toNat).toNat : Int) = k2 by rw [UInt8.toNat_ofNat']; omega]
  · unfold numH
    split
    · exact q0
    · exact q1
    · exact q2
    · exact z4
    · exact q3
    · decide
  · simp only [Prod.mk.injEq] at hx
    rw [hx.1]
    exact ⟨_, rfl⟩
/-- how long its texts are -/
theorem head_sized {ts : List TypeId} {ds : List (DataW H)} (hz : (DataW.weightsEach Tryz.prog ts ds).all (· ≤ reachBytes) = true) {j : Nat} {a b : List UInt8} {r : List (DataW H)}
    (ht : ts[j]? = some 57) (hd : ds[j]? = some (.agg (.lit (.string a) :: .lit (.string b) :: r))) : a.length ≤ 140737488351232 ∧ b.length ≤ 140737488351232 := by
  have h := List.all_eq_true.1 hz
  have e : (DataW.agg (.lit (.string a) :: .lit (.string b) :: r) : DataW H).weights Tryz.prog 57 = DataW.weightsEach Tryz.prog [9, 9, 5, 35, 3, 4] (.lit (.string a) :: .lit (.string b) :: r) := by
    simp only [DataW.weights, Tryz.underlying57]
    rfl
  have h1 := h a.length (DataW.weights_mem_each ht hd _ (by rw [e]; simp [DataW.weightsEach, DataW.weights]))
  have h2 := h b.length (DataW.weights_mem_each ht hd _ (by rw [e]; simp [DataW.weightsEach, DataW.weights]))
  simp [reachBytes] at h1 h2
  exact ⟨of_decide_eq_true h1, of_decide_eq_true h2⟩
end
end Go.Proofs.YtdjedimjhogdoaaGreatDoor.Head
end
section
namespace Go.Proofs.YtdjedimjhogdoaaGreatDoor.Rec
open Go.ChangeShapes Go.WideShapes Go.ChangeAt Go.RowKit Go.Deep Go.Proofs.YtdjedimjhogdoaaGreatDoor.Base Go.Proofs.YtdjedimjhogdoaaGreatDoor.Byt Go.Proofs.YtdjedimjhogdoaaGreatDoor.Txt Go.Lib
set_option linter.unusedVariables false
set_option maxRecDepth 100000

theorem rcells : Tryz.prog.cellsOf 53 = 2 := by kernel_rfl
theorem rcellsS : Tryz.prog.cellsOf 9 = 1 := by kernel_rfl
theorem list_two {α : Type} (l : List α) (h : l.length = 2) : ∃ a b, l = [a, b] := by
  match l, h with
  | [a, b], _ => exact ⟨a, b, rfl⟩
section
variable {H : Type} {enc : TypeId × Value → H} {w : World} {base : Nat} {held : Bool} {spare : Nat → Bool}
theorem rec_open {v : Value} {d : DataW H} {ps : List MemPlace} (h : DataW.Trod enc Tryz.prog w base spare held 53 v d ps) :
    ∃ k x : List UInt8, v = .agg #[.string (str k), .string (str x)] ∧ d = .agg [.lit (.string k), .lit (.string x)] := by
  obtain ⟨fuel, hf⟩ := h
  obtain ⟨xs, n, rfl, hx, hl, hxl, hall⟩ := DataW.trod_struct Tryz.underlying53 hf
  rw [rcells] at hl
  obtain ⟨cs, rfl⟩ : ∃ cs, v = .agg cs := by
    cases v <;> first | exact ⟨_, rfl⟩ | (simp [Value.cells] at hl)
  obtain ⟨a, b, hcs⟩ := list_two cs.toList (by simpa [Value.cells] using hl)
  obtain ⟨x0, x1, rfl⟩ := list_two xs (by simpa using hxl)
  have hcells : (Value.agg cs).cells.toList = [a, b] := hcs
  rw [hcells] at hall
  have h0 := hall 0 _ rfl
  have h1 := hall 1 _ rfl
  simp only [List.getElem_toArray, List.getElem_cons_zero, List.getElem_cons_succ, rcellsS, List.drop_zero, List.drop_succ_cons, List.take_succ_cons, List.take_zero, List.getElem?_cons_zero, List.getElem?_cons_succ] at h0 h1
  obtain ⟨s0, e0, rfl, z0⟩ := DataW.trod_string Tryz.underlying9 h0
  obtain ⟨s1, e1, rfl, z1⟩ := DataW.trod_string Tryz.underlying9 h1
  simp only [List.cons.injEq, and_true] at e0 e1
  subst e0 e1
  refine ⟨s0.data.toList, s1.data.toList, ?_, ?_⟩
  · congr 1
    apply Array.toList_inj.1
    rw [hcs, str_of, str_of]
  · simp only [Prod.mk.injEq] at hx
    rw [hx.1]
    rfl
theorem weights_rec (k x : List UInt8) : (DataW.agg [.lit (.string k), .lit (.string x)] : DataW H).weights Tryz.prog 53 = [k.length, x.length] := by
  simp only [DataW.weights, Tryz.underlying53]
  rfl
theorem rec_sized {ts : List TypeId} {ds : List (DataW H)} (hz : (DataW.weightsEach Tryz.prog ts ds).all (· ≤ reachBytes) = true) {j : Nat} {k x : List UInt8}
    (ht : ts[j]? = some 53) (hd : ds[j]? = some (.agg [.lit (.string k), .lit (.string x)])) : k.length ≤ 140737488351232 ∧ x.length ≤ 140737488351232 := by
  have h := List.all_eq_true.1 hz
  have h1 := h k.length (DataW.weights_mem_each ht hd _ (by rw [weights_rec]; simp))
  have h2 := h x.length (DataW.weights_mem_each ht hd _ (by rw [weights_rec]; simp))
  simp [reachBytes] at h1 h2
  exact ⟨of_decide_eq_true h1, of_decide_eq_true h2⟩
theorem weights_all {P : Program} {e : TypeId} {l : List (DataW H)} {d : DataW H} (hd : d ∈ l) {n : Nat} (hn : n ∈ d.weights P e) : n ∈ DataW.weightsAll P e l := by
  induction l with
  | nil => cases hd
  | cons a l ih =>
    simp only [DataW.weightsAll, List.mem_append]
    rcases List.mem_cons.1 hd with rfl | h
    · exact .inl hn
    · exact .inr (ih h)
theorem recs_open {a : Option Addr} {len cap : Nat} {d : DataW H} {ps : List MemPlace} {ts : List TypeId} {ds : List (DataW H)} (hz : (DataW.weightsEach Tryz.prog ts ds).all (· ≤ reachBytes) = true) {j : Nat} (ht : ts[j]? = some 73) (hd : ds[j]? = some d)
    (h : DataW.Trod enc Tryz.prog w base (fun _ => true) held 73 (.slice a len cap) d ps) :
    ∃ rs, RecsAt w a len rs ∧ len ≤ cap ∧ cap ≤ maxLen ∧ (∀ r ∈ rs, r.1.length ≤ 140737488351232 ∧ r.2.length ≤ 140737488351232) ∧ cap * 32 ≤ 140737488351232 := by
  obtain ⟨fuel, hf⟩ := h
  rcases open_slice_pairs Tryz.underlying73 Tryz.underlying53 rcells rfl rfl rcellsS rcellsS hf with ⟨hcs, _⟩ | ⟨x, l, c, m, n, V0, V1, D0, D1, P0, P1, hcs, _, hl, hm, hmm, hdd, hc⟩
  · simp [Value.cells] at hcs
    obtain ⟨rfl, rfl, rfl⟩ := hcs
    exact ⟨[], ⟨rfl, fun h => absurd h (by omega)⟩, by omega, by omega, by simp, by omega⟩
  · simp [Value.cells] at hcs
    obtain ⟨rfl, rfl, rfl⟩ := hcs
    simp only [if_true] at hmm
    subst hmm
    simp only [Prod.mk.injEq] at hdd
    obtain ⟨hdd, _⟩ := hdd
    obtain ⟨K, hK⟩ := choose_lt (p := fun i (b : List UInt8) => V0 i = .string (str b) ∧ D0 i = .lit (.string b)) (fun i hi' => by
      obtain ⟨b, h1, h2, _⟩ := DataW.trod_string Tryz.underlying9 (hc i hi').2.2.1
      refine ⟨b.data.toList, ?_, ?_⟩
      · rw [str_of]; simpa using h1
      · have h3 := h2
        simp at h3
        exact h3.1)
    obtain ⟨X, hX⟩ := choose_lt (p := fun i (b : List UInt8) => V1 i = .string (str b) ∧ D1 i = .lit (.string b)) (fun i hi' => by
      obtain ⟨b, h1, h2, _⟩ := DataW.trod_string Tryz.underlying9 (hc i hi').2.2.2
      refine ⟨b.data.toList, ?_, ?_⟩
      · rw [str_of]; simpa using h1
      · have h3 := h2
        simp at h3
        exact h3.1)
    have hw := List.all_eq_true.1 hz
    have hget : ∀ i, i < len → ((List.range len).map fun i => (K i, X i)).getD i ([], []) = (K i, X i) := fun i hi => by
      simp [List.getD, hi]
    refine ⟨(List.range len).map fun i => (K i, X i), ⟨by simp, fun h0 => ?_⟩, hl, hm, fun r hr => ?_, ?_⟩
    · have hx : x = ⟨x.block, x.off, none⟩ := by
        obtain ⟨b, o, s⟩ := x
        have hs : s = none := by simpa [Addr.add] using World.cell?_spot (hc 0 (by omega)).1
        rw [hs]
      refine ⟨x.block, x.off, by rw [← hx], ?_, fun i hi => ?_⟩
      · have := (hc 0 (by omega)).1
        first | rw [hx, Lib.add_plain] at this | rw [hx, WideShapes.add_plain] at this
        have := World.block_lt_of_cell? _ _ this
        exact this
      · have h1 := (hc i (by omega)).1
        have h2 := (hc i (by omega)).2.1
        first | rw [hx, Lib.add_plain] at h1 h2 | rw [hx, WideShapes.add_plain] at h1 h2
        rw [(hK i (by omega)).1] at h1
        rw [(hX i (by omega)).1] at h2
        rw [hget i hi, Nat.mul_comm]
        exact ⟨h1, by rw [Nat.add_assoc]; exact h2⟩
    · obtain ⟨i, hi, rfl⟩ := List.mem_map.1 hr
      have hi' : i < len := List.mem_range.1 hi
      have hmem : (DataW.agg [D0 i, D1 i] : DataW H) ∈ (List.range len).map fun i => .agg [D0 i, D1 i] := List.mem_map.2 ⟨i, hi, rfl⟩
      have e1 : (DataW.agg [D0 i, D1 i] : DataW H).weights Tryz.prog 53 = [(K i).length, (X i).length] := by
        rw [(hK i (by omega)).2, (hX i (by omega)).2, weights_rec]
      have hin : ∀ z ∈ [(K i).length, (X i).length], z ∈ d.weights Tryz.prog 73 := fun z hz' => by
        rw [hdd]
        simp only [DataW.weights, Tryz.underlying73, List.mem_cons, List.mem_append]
        exact .inr (.inl (weights_all hmem (by rw [e1]; exact hz')))
      have h1 := hw _ (DataW.weights_mem_each ht hd _ (hin (K i).length (by simp)))
      have h2 := hw _ (DataW.weights_mem_each ht hd _ (hin (X i).length (by simp)))
      simp [reachBytes] at h1 h2
      exact ⟨of_decide_eq_true h1, of_decide_eq_true h2⟩
    · rw [hdd] at hd
      have hr := sized_slice hz ht hd Tryz.underlying73
      rw [(by kernel_rfl : Tryz.prog.bytesOf 53 = 32)] at hr
      simp only [List.length_map, List.length_range, reachBytes] at hr
      omega
end
end Go.Proofs.YtdjedimjhogdoaaGreatDoor.Rec
end
section
namespace Go.Proofs.YtdjedimjhogdoaaGreatDoor.Mem
open Go.ChangeShapes Go.WideShapes Go.ChangeAt Go.RowKit Go.Deep Go.Proofs.YtdjedimjhogdoaaGreatDoor.Base Go.Proofs.YtdjedimjhogdoaaGreatDoor.Byt Go.Proofs.YtdjedimjhogdoaaGreatDoor.Txt Go.Proofs.YtdjedimjhogdoaaGreatDoor.Bk Go.Proofs.YtdjedimjhogdoaaGreatDoor.Hp Go.Proofs.YtdjedimjhogdoaaGreatDoor.Head Go.Proofs.YtdjedimjhogdoaaGreatDoor.Rec Go.Lib
set_option linter.unusedVariables false
set_option maxRecDepth 100000

theorem list8 {α : Type} (l : List α) (h : l.length = 8) : ∃ a b c d e f g i, l = [a, b, c, d, e, f, g, i] := by
  match l, h with
  | [a, b, c, d, e, f, g, i], _ => exact ⟨a, b, c, d, e, f, g, i, rfl⟩
theorem list5 {α : Type} (l : List α) (h : l.length = 5) : ∃ a b c d e, l = [a, b, c, d, e] := by
  match l, h with
  | [a, b, c, d, e], _ => exact ⟨a, b, c, d, e, rfl⟩
theorem cells8 : Tryz.prog.cellsOf 37 = 8 := by kernel_rfl
theorem cellsY : Tryz.prog.cellsOf 22 = 1 := by kernel_rfl
instance : Inhabited MP := ⟨zeroP⟩
/-- its numbers are int's -/
def WfM (m : MemV) : Prop := (Lit.int .i64 m.mode).wf = true ∧ (Lit.int .i64 m.uid).wf = true ∧ (Lit.int .i64 m.gid).wf = true ∧ (Lit.int .i64 m.time).wf = true
/-- its texts and its body have room in memory -/
def RoomM (x : MP) : Prop := x.m.path.length ≤ 140737488351232 ∧ x.m.target.length ≤ 140737488351232 ∧ x.c ≤ 140737488351232
section
variable {H : Type} {enc : TypeId × Value → H} {w : World} {base : Nat} {held : Bool}
theorem mem_cells {cs : List Value} {d : DataW H} {ps : List MemPlace} {fuel : Nat} (hw : ∀ z ∈ d.weights Tryz.prog 37, z ≤ reachBytes)
    (hf : DataW.trod enc Tryz.prog w base (fun _ => true) held fuel 37 cs = some (d, ps)) :
    ∃ x : MP, cs = x.cs.toList ∧ BodyAt w x ∧ WfM x.m ∧ RoomM x := by
  obtain ⟨xs, n, rfl, hx, hl, hxl, hall⟩ := DataW.trod_struct Tryz.underlying37 hf
  rw [cells8] at hl
  obtain ⟨a, b, c, e, f, g, i, j, rfl⟩ := list8 cs hl
  obtain ⟨x0, x1, x2, x3, x4, rfl⟩ := list5 xs (by simpa using hxl)
  have h0 := hall 0 _ rfl
  have h1 := hall 1 _ rfl
  have h2 := hall 2 _ rfl
  have h3 := hall 3 _ rfl
  have h4 := hall 4 _ rfl
  simp only [List.getElem_toArray, List.getElem_cons_zero, List.getElem_cons_succ, cellsM, cellsS, cellsU, cellsY, List.drop_zero, List.drop_succ_cons, List.take_succ_cons, List.take_zero, List.getElem?_cons_zero, List.getElem?_cons_succ] at h0 h1 h2 h3 h4
  obtain ⟨s0, e0, rfl, z0⟩ := DataW.trod_string Tryz.underlying9 h0
  obtain ⟨s1, e1, rfl, z1⟩ := DataW.trod_string Tryz.underlying9 h1
  obtain ⟨k2, e2, rfl, z2⟩ := DataW.trod_int Tryz.underlying5 h2
  obtain ⟨ys, n', rfl, hy, hl', hyl, hall'⟩ := DataW.trod_struct Tryz.underlying35 h3
  obtain ⟨y0, y1, y2, y3, rfl⟩ := list4 ys (by simpa using hyl)
  have g0 := hall' 0 _ rfl
  have g1 := hall' 1 _ rfl
  have g2 := hall' 2 _ rfl
  have g3 := hall' 3 _ rfl
  simp only [List.getElem_toArray, List.getElem_cons_zero, List.getElem_cons_succ, cellsI, List.drop_zero, List.drop_succ_cons, List.take_succ_cons, List.take_zero, List.getElem?_cons_zero, List.getElem?_cons_succ] at g0 g1 g2 g3
  obtain ⟨m0, f0, rfl, q0⟩ := DataW.trod_int Tryz.underlying3 g0
  obtain ⟨m1, f1, rfl, q1⟩ := DataW.trod_int Tryz.underlying3 g1
  obtain ⟨m2, f2, rfl, q2⟩ := DataW.trod_int Tryz.underlying3 g2
  obtain ⟨m3, f3, rfl, q3⟩ := DataW.trod_int Tryz.underlying3 g3
  simp only [List.cons.injEq, and_true] at e0 e1 e2 f0 f1 f2 f3
  subst e0 e1 e2 f0 f1 f2 f3
  obtain ⟨k0, k1⟩ := wf8 z2
  simp only [Prod.mk.injEq, List.map_cons, List.map_nil] at hx
  obtain ⟨hd, _⟩ := hx
  have ew : d.weights Tryz.prog 37 = DataW.weightsEach Tryz.prog [9, 9, 5, 35, 22] [.lit (.string s0.data.toList), .lit (.string s1.data.toList), .lit (.int .u8 k2), x3.1, x4.1] := by
    rw [hd]
    simp only [DataW.weights, Tryz.underlying37]
    rfl
  have w0 := hw s0.data.toList.length (by rw [ew]; simp [DataW.weightsEach, DataW.weights])
  have w1 := hw s1.data.toList.length (by rw [ew]; simp [DataW.weightsEach, DataW.weights])
  have w4 : ∀ z ∈ x4.1.weights Tryz.prog 22, z ≤ reachBytes := fun z hz => hw z (by
    rw [ew]
    simp only [DataW.weightsEach, List.mem_append]
    exact .inr (.inr (.inr (.inr (.inl hz)))))
  have ek : ((UInt8.ofNat k2.toNat).toNat : Int) = k2 := by rw [UInt8.toNat_ofNat']; omega
  simp only [reachBytes] at w0 w1
  rcases open_ints Tryz.underlying22 Tryz.underlying5 cellsU h4 with ⟨hcs, _⟩ | ⟨x, l, cp, zs, hcs, _, hlc, hmx, hz, hxx, hcell, hwz⟩
  · simp only [List.cons.injEq, and_true] at hcs
    subst hcs
    refine ⟨⟨⟨s0.data.toList, s1.data.toList, UInt8.ofNat k2.toNat, m0, m1, m2, m3, []⟩, none, 0⟩, ?_, ⟨fun h0 => by simp at h0, Nat.le_refl _, by show (0 : Nat) ≤ maxLen; decide⟩, ⟨q0, q1, q2, q3⟩, by omega, by omega, by show 0 ≤ _; omega⟩
    rw [MP.cs_list, str_of, str_of, ek]
    rfl
  · simp only [List.cons.injEq, and_true] at hcs
    subst hcs
    simp only [if_true] at hz
    have hrow : IsRow .u8 w (some x) l cp zs := .inr ⟨_, rfl, hlc, hmx, hz, fun i hi => hcell i hi, hwz⟩
    obtain ⟨b1, b2, b3, b4⟩ := bat_of_row hrow
    have wc := w4 (cp * 1) (by
      rw [hxx]
      simp only [DataW.weights, Tryz.underlying22, List.mem_cons, List.mem_append, lits, List.length_map, List.length_take, List.length_drop]
      refine .inl ?_
      rw [(by kernel_rfl : Tryz.prog.bytesOf 5 = 1)]
      congr 1
      omega)
    simp only [reachBytes] at wc
    refine ⟨⟨⟨s0.data.toList, s1.data.toList, UInt8.ofNat k2.toNat, m0, m1, m2, m3, bytesOf (zs.take l)⟩, some x, cp⟩, ?_, ⟨?_, ?_, hmx⟩, ⟨q0, q1, q2, q3⟩, by omega, by omega, by show cp ≤ _; omega⟩
    · rw [MP.cs_list, str_of, str_of, ek]
      simp only [b2]
    · show BAt w (some x) (bytesOf (zs.take l)).length (bytesOf (zs.take l))
      rw [b2]
      exact b1
    · show (bytesOf (zs.take l)).length ≤ cp
      rw [b2]
      exact hlc
theorem mem_open {v : Value} {d : DataW H} {ps : List MemPlace} {ts : List TypeId} {ds : List (DataW H)} (hz : (DataW.weightsEach Tryz.prog ts ds).all (· ≤ reachBytes) = true) {j : Nat} (ht : ts[j]? = some 37) (hd : ds[j]? = some d)
    (h : DataW.Trod enc Tryz.prog w base (fun _ => true) held 37 v d ps) :
    ∃ x : MP, v = .agg x.cs ∧ BodyAt w x ∧ WfM x.m ∧ RoomM x := by
  obtain ⟨fuel, hf⟩ := h
  have hw := List.all_eq_true.1 hz
  obtain ⟨x, h1, h2⟩ := mem_cells (fun z hzz => of_decide_eq_true (hw _ (DataW.weights_mem_each ht hd _ hzz))) hf
  refine ⟨x, ?_, h2⟩
  obtain ⟨cs, rfl⟩ : ∃ cs, v = .agg cs := by
    have hl := congrArg List.length h1
    rw [MP.cs_list] at hl
    cases v <;> first | exact ⟨_, rfl⟩ | (simp [Value.cells] at hl)
  congr 1
  apply Array.toList_inj.1
  exact h1
theorem mems_open {a : Option Addr} {len cap : Nat} {d : DataW H} {ps : List MemPlace} {ts : List TypeId} {ds : List (DataW H)} (hz : (DataW.weightsEach Tryz.prog ts ds).all (· ≤ reachBytes) = true) {j : Nat} (ht : ts[j]? = some 25) (hd : ds[j]? = some d)
    (h : DataW.Trod enc Tryz.prog w base (fun _ => true) held 25 (.slice a len cap) d ps) :
    ∃ xs : List MP, MemsAt w a len xs ∧ len ≤ cap ∧ cap ≤ maxLen ∧ cap * 96 ≤ 140737488351232 ∧ ∀ x ∈ xs, WfM x.m ∧ RoomM x := by
  obtain ⟨fuel, hf⟩ := h
  rcases open_slice Tryz.underlying25 hf with ⟨hcs, _⟩ | ⟨x, l, c, m, n, D, Pl, hcs, hb, hl, hm, hmm, hdd, hx⟩
  · simp [Value.cells] at hcs
    obtain ⟨rfl, rfl, rfl⟩ := hcs
    exact ⟨[], mems_nil w none, by omega, by omega, by omega, fun x hx => by simp at hx⟩
  · simp [Value.cells] at hcs
    obtain ⟨rfl, rfl, rfl⟩ := hcs
    simp only [if_true] at hmm
    subst hmm
    simp only [Prod.mk.injEq] at hdd
    obtain ⟨hdd, _⟩ := hdd
    have hw := List.all_eq_true.1 hz
    have key : ∀ i, i < len → ∃ q : MP, w.cells? base (x.add (i * 8)) 8 = some q.cs.toList ∧ BodyAt w q ∧ WfM q.m ∧ RoomM q := fun i hi => by
      obtain ⟨cs', h1, h2⟩ := hx i (by omega)
      rw [cells8] at h1
      have hmem : D i ∈ (List.range len).map D := List.mem_map.2 ⟨i, List.mem_range.2 hi, rfl⟩
      obtain ⟨q, rfl, g⟩ := mem_cells (fun z hzz => by
        have hin : z ∈ d.weights Tryz.prog 25 := by
          rw [hdd]
          simp only [DataW.weights, Tryz.underlying25, List.mem_cons, List.mem_append]
          exact .inr (.inl (weights_all hmem hzz))
        exact of_decide_eq_true (hw _ (DataW.weights_mem_each ht hd _ hin))) h2
      exact ⟨q, h1, g⟩
    obtain ⟨q, hq⟩ := choose_lt key
    have hget : ∀ i, i < len → ((List.range len).map q).getD i zeroP = q i := fun i hi => by
      simp [List.getD, hi]
    have hbytes : m * 96 ∈ d.weights Tryz.prog 25 := by
      rw [hdd]
      simp only [DataW.weights, Tryz.underlying25, List.mem_cons, List.mem_append, List.length_map, List.length_range]
      refine .inl ?_
      rw [(by kernel_rfl : Tryz.prog.bytesOf 37 = 96)]
      congr 1
      omega
    have hby := of_decide_eq_true (hw _ (DataW.weights_mem_each ht hd _ hbytes))
    simp only [reachBytes] at hby
    refine ⟨(List.range len).map q, ⟨by simp, fun y hy => ?_, fun h0 => ?_⟩, hl, hm, hby, fun y hy => ?_⟩
    · obtain ⟨i, hi, rfl⟩ := List.mem_map.1 hy
      exact (hq i (List.mem_range.1 hi)).2.1
    · obtain ⟨_, _, hc0⟩ := World.cells?_some (hq 0 h0).1
      have c0 : w.cell? ((x.add (0 * 8)).add 0) = some (.string (str (q 0).m.path)) := hc0 0 (by omega)
      have hx0 : x = ⟨x.block, x.off, none⟩ := by
        obtain ⟨b, o, s⟩ := x
        have hs : s = none := by
          have : w.cell? (⟨b, o, s⟩ : Addr) = some (.string (str (q 0).m.path)) := by simpa [Addr.add] using c0
          exact World.cell?_spot this
        rw [hs]
      refine ⟨x.block, x.off, by rw [← hx0], ?_, fun i hi j hj => ?_⟩
      · have c0' : w.cell? ((x.add (0 * 8)).add 0) = some (.string (str (q 0).m.path)) := c0
        first | rw [hx0, Lib.add_plain, Lib.add_plain] at c0' | rw [hx0, WideShapes.add_plain, WideShapes.add_plain] at c0'
        have c1' := World.block_lt_of_cell? _ _ c0'
        exact c1'
      · obtain ⟨_, _, hci⟩ := World.cells?_some (hq i hi).1
        have := hci j hj
        first | rw [hx0, Lib.add_plain, Lib.add_plain] at this | rw [hx0, WideShapes.add_plain, WideShapes.add_plain] at this
        rw [hget i hi, show x.off + 8 * i + j = x.off + i * 8 + j by omega, this, Array.getElem?_toList]
    · obtain ⟨i, hi, rfl⟩ := List.mem_map.1 hy
      exact (hq i (List.mem_range.1 hi)).2.2
end
end Go.Proofs.YtdjedimjhogdoaaGreatDoor.Mem
end
section
namespace Go.Proofs.YtdjedimjhogdoaaGreatDoor.Mem
open Go.ChangeShapes Go.WideShapes Go.ChangeAt Go.RowKit Go.Proofs.YtdjedimjhogdoaaGreatDoor.Base Go.Proofs.YtdjedimjhogdoaaGreatDoor.Byt Go.Proofs.YtdjedimjhogdoaaGreatDoor.Txt Go.Proofs.YtdjedimjhogdoaaGreatDoor.Bk Go.Lib
theorem blk8c {w' : World} {b : Nat} {x : MP} (h : Blk w' b 37 #[.string (str x.m.path), .string (str x.m.target), .int .u8 (x.m.kind.toNat : Int), .int .i64 x.m.mode, .int .i64 x.m.uid, .int .i64 x.m.gid, .int .i64 x.m.time, .slice x.p x.m.body.length x.c]) : (w'.cell? ⟨b, 0, none⟩ = some (.string (str x.m.path)) ∧ w'.cell? ⟨b, 1, none⟩ = some (.string (str x.m.target)) ∧ w'.cell? ⟨b, 2, none⟩ = some (.int .u8 (x.m.kind.toNat : Int)) ∧ w'.cell? ⟨b, 3, none⟩ = some (.int .i64 x.m.mode) ∧ w'.cell? ⟨b, 4, none⟩ = some (.int .i64 x.m.uid) ∧ w'.cell? ⟨b, 5, none⟩ = some (.int .i64 x.m.gid) ∧ w'.cell? ⟨b, 6, none⟩ = some (.int .i64 x.m.time) ∧ w'.cell? ⟨b, 7, none⟩ = some (.slice x.p x.m.body.length x.c)) :=
  ⟨h.cell 0, h.cell 1, h.cell 2, h.cell 3, h.cell 4, h.cell 5, h.cell 6, h.cell 7⟩
theorem one_of {x : MP} {ys : List MP} (h : ys.map MP.m = [x].map MP.m) (hl : ys.length = 1) : ∃ y, ys = [y] ∧ y.m = x.m := by
  match ys, hl with
  | [y], _ => exact ⟨y, rfl, by simpa using h⟩
end Go.Proofs.YtdjedimjhogdoaaGreatDoor.Mem
namespace Go.Proofs.YtdjedimjhogdoaaGreatDoor.Walk
open Go.ChangeShapes Go.WideShapes Go.ChangeAt Go.RowKit Go.Proofs.YtdjedimjhogdoaaGreatDoor.Base Go.Proofs.YtdjedimjhogdoaaGreatDoor.Byt Go.Proofs.YtdjedimjhogdoaaGreatDoor.Txt Go.Proofs.YtdjedimjhogdoaaGreatDoor.Bk Go.Proofs.YtdjedimjhogdoaaGreatDoor.Num Go.Proofs.YtdjedimjhogdoaaGreatDoor.Block Go.Proofs.YtdjedimjhogdoaaGreatDoor.Rec Go.Proofs.YtdjedimjhogdoaaGreatDoor.Hp Go.Proofs.YtdjedimjhogdoaaGreatDoor.Head Go.Proofs.YtdjedimjhogdoaaGreatDoor.Mem Go.Lib
set_option linter.unusedVariables false
set_option maxRecDepth 100000

set_option maxHeartbeats 4000000 in
theorem memberGood (x0 x1 : MP) (w : World) (ba0 : BodyAt w x0) (wm0 : WfM x0.m) (rm0 : RoomM x0) (ba1 : BodyAt w x1) (wm1 : WfM x1.m) (rm1 : RoomM x1) (hT : Need w) :
    Calls Tryz.prog 5 #[.agg x0.cs, .agg x1.cs] w fun e w' => e = .returned (.bool true) ∧ Below w.heap.size w w' := by
  unfold MP.cs memC
  obtain ⟨W1, hW1⟩ : ∃ W1, w.alloc (.cells #[.string (str x0.m.path), .string (str x0.m.target), .int .u8 (x0.m.kind.toNat : Int), .int .i64 x0.m.mode, .int .i64 x0.m.uid, .int .i64 x0.m.gid, .int .i64 x0.m.time, .slice x0.p x0.m.body.length x0.c] 37) = W1 := ⟨_, rfl⟩
  obtain ⟨W2, hW2⟩ : ∃ W2, W1.alloc (.cells #[.string (str x1.m.path), .string (str x1.m.target), .int .u8 (x1.m.kind.toNat : Int), .int .i64 x1.m.mode, .int .i64 x1.m.uid, .int .i64 x1.m.gid, .int .i64 x1.m.time, .slice x1.p x1.m.body.length x1.c] 37) = W2 := ⟨_, rfl⟩
  have hs1 : W1.heap.size = w.heap.size + 1 := by rw [← hW1]; simp
  have hB1 : Below w.heap.size w W1 := by rw [← hW1]; exact (Below.refl _ w).alloc (Nat.le_refl _) _
  have hB2 : Below W1.heap.size W1 W2 := by rw [← hW2]; exact (Below.refl _ W1).alloc (Nat.le_refl _) _
  have hX0 : Blk W2 w.heap.size 37 #[.string (str x0.m.path), .string (str x0.m.target), .int .u8 (x0.m.kind.toNat : Int), .int .i64 x0.m.mode, .int .i64 x0.m.uid, .int .i64 x0.m.gid, .int .i64 x0.m.time, .slice x0.p x0.m.body.length x0.c] := by
    have : Blk W1 w.heap.size 37 #[.string (str x0.m.path), .string (str x0.m.target), .int .u8 (x0.m.kind.toNat : Int), .int .i64 x0.m.mode, .int .i64 x0.m.uid, .int .i64 x0.m.gid, .int .i64 x0.m.time, .slice x0.p x0.m.body.length x0.c] := by rw [← hW1]; exact Blk.new w _ _
    exact this.below hB2 this.lt
  have hX1 : Blk W2 W1.heap.size 37 #[.string (str x1.m.path), .string (str x1.m.target), .int .u8 (x1.m.kind.toNat : Int), .int .i64 x1.m.mode, .int .i64 x1.m.uid, .int .i64 x1.m.gid, .int .i64 x1.m.time, .slice x1.p x1.m.body.length x1.c] := by rw [← hW2]; exact Blk.new W1 _ _
  rw [hs1] at hX1
  have hBB := hB1.trans (hB2.mono hB1.size)
  have HB := Lib.hid hBB
  have HX0 := Lib.hid hX0
  have HX1 := Lib.hid hX1
  have HA0 := Lib.hid (ba0.below hBB)
  have HA1 := Lib.hid (ba1.below hBB)
  have HN := Lib.hid (hT.below hBB)
  have HR0 := Lib.hid rm0
  have HR1 := Lib.hid rm1
  have q0 := hX0.cell 0
  have q1 := hX0.cell 1
  have r0 := hX1.cell 0
  have r1 := hX1.cell 1
  simp only [List.getElem?_toArray, List.getElem?_cons_zero, List.getElem?_cons_succ] at q0 q1 r0 r1
  have l0 := rm0.1
  have l1 := rm0.2.1
  have l2 := rm1.1
  have l3 := rm1.2.1
  have z0 := str_size x0.m.path
  have z1 := str_size x0.m.target
  have z2 := str_size x1.m.path
  have z3 := str_size x1.m.target
  clear ba0 wm0 rm0 ba1 wm1 rm1 hT hB1 hB2 hX0 hX1 hBB
  by_cases hbig : 5000 < x0.m.path.length + x0.m.target.length + x1.m.path.length + x1.m.target.length
  · have hbz : (5000 : Int) < (x0.m.path.length : Int) + (x0.m.target.length : Int) + (x1.m.path.length : Int) + (x1.m.target.length : Int) := by omega
    go_enter Tryz.func5, Tryz.ntmps5
    go_upto_region 1 with fail
    clear hW1 hW2
    go_wp2_with fail
    refine (ans08_any _ HN.out).mono ?_
    rintro e w3 ⟨rfl, hb3⟩
    have FIN := Lib.hid (HB.out.trans (hb3.mono HB.out.size))
    clear hb3
    go_wp2
    go_ret
    exact ⟨rfl, FIN.out⟩
  · have hbz : ¬ (5000 : Int) < (x0.m.path.length : Int) + (x0.m.target.length : Int) + (x1.m.path.length : Int) + (x1.m.target.length : Int) := by omega
    have HL : Hid (x0.m.path.length ≤ 5000 ∧ x0.m.target.length ≤ 5000) := Lib.hid ⟨by omega, by omega⟩
    go_enter Tryz.func5, Tryz.ntmps5
    go_upto_region 1 with fail
    clear hW1 hW2
    go_upto_region 3 with fail
    have HCC : Hid (∀ w', Below W2.heap.size W2 w' → (w'.cell? ⟨w.heap.size, 0, none⟩ = some (.string (str x0.m.path)) ∧ w'.cell? ⟨w.heap.size, 1, none⟩ = some (.string (str x0.m.target)) ∧ w'.cell? ⟨w.heap.size, 2, none⟩ = some (.int .u8 (x0.m.kind.toNat : Int)) ∧ w'.cell? ⟨w.heap.size, 3, none⟩ = some (.int .i64 x0.m.mode) ∧ w'.cell? ⟨w.heap.size, 4, none⟩ = some (.int .i64 x0.m.uid) ∧ w'.cell? ⟨w.heap.size, 5, none⟩ = some (.int .i64 x0.m.gid) ∧ w'.cell? ⟨w.heap.size, 6, none⟩ = some (.int .i64 x0.m.time) ∧ w'.cell? ⟨w.heap.size, 7, none⟩ = some (.slice x0.p x0.m.body.length x0.c)) ∧ (w'.cell? ⟨w.heap.size + 1, 0, none⟩ = some (.string (str x1.m.path)) ∧ w'.cell? ⟨w.heap.size + 1, 1, none⟩ = some (.string (str x1.m.target)) ∧ w'.cell? ⟨w.heap.size + 1, 2, none⟩ = some (.int .u8 (x1.m.kind.toNat : Int)) ∧ w'.cell? ⟨w.heap.size + 1, 3, none⟩ = some (.int .i64 x1.m.mode) ∧ w'.cell? ⟨w.heap.size + 1, 4, none⟩ = some (.int .i64 x1.m.uid) ∧ w'.cell? ⟨w.heap.size + 1, 5, none⟩ = some (.int .i64 x1.m.gid) ∧ w'.cell? ⟨w.heap.size + 1, 6, none⟩ = some (.int .i64 x1.m.time) ∧ w'.cell? ⟨w.heap.size + 1, 7, none⟩ = some (.slice x1.p x1.m.body.length x1.c))) := Lib.hid (fun w' h => ⟨blk8c (HX0.out.below h HX0.out.lt), blk8c (HX1.out.below h HX1.out.lt)⟩)
    have HBB : Hid (Below W2.heap.size W2 W2.drew) := Lib.hid (below_drewN (Below.refl W2.heap.size W2) 1)
    have MARK : Hid (0 = 0) := Lib.hid rfl
    obtain ⟨gd, hgd⟩ : ∃ gd, goodD x0.m = gd := ⟨_, rfl⟩
    obtain ⟨sm, hsm⟩ : ∃ sm, decide (x0.m = x1.m) = sm := ⟨_, rfl⟩
    have HGD := Lib.hid hgd
    have HSM := Lib.hid hsm
    clear hgd hsm hbig hbz q0 q1 r0 r1 l0 l1 l2 l3 z0 z1 z2 z3 hs1
    go_region_held_law (fun w' => (w'.cell? ⟨w.heap.size, 0, none⟩ = some (.string (str x0.m.path)) ∧ w'.cell? ⟨w.heap.size, 1, none⟩ = some (.string (str x0.m.target)) ∧ w'.cell? ⟨w.heap.size, 2, none⟩ = some (.int .u8 (x0.m.kind.toNat : Int)) ∧ w'.cell? ⟨w.heap.size, 3, none⟩ = some (.int .i64 x0.m.mode) ∧ w'.cell? ⟨w.heap.size, 4, none⟩ = some (.int .i64 x0.m.uid) ∧ w'.cell? ⟨w.heap.size, 5, none⟩ = some (.int .i64 x0.m.gid) ∧ w'.cell? ⟨w.heap.size, 6, none⟩ = some (.int .i64 x0.m.time) ∧ w'.cell? ⟨w.heap.size, 7, none⟩ = some (.slice x0.p x0.m.body.length x0.c)) ∧ (w'.cell? ⟨w.heap.size + 1, 0, none⟩ = some (.string (str x1.m.path)) ∧ w'.cell? ⟨w.heap.size + 1, 1, none⟩ = some (.string (str x1.m.target)) ∧ w'.cell? ⟨w.heap.size + 1, 2, none⟩ = some (.int .u8 (x1.m.kind.toNat : Int)) ∧ w'.cell? ⟨w.heap.size + 1, 3, none⟩ = some (.int .i64 x1.m.mode) ∧ w'.cell? ⟨w.heap.size + 1, 4, none⟩ = some (.int .i64 x1.m.uid) ∧ w'.cell? ⟨w.heap.size + 1, 5, none⟩ = some (.int .i64 x1.m.gid) ∧ w'.cell? ⟨w.heap.size + 1, 6, none⟩ = some (.int .i64 x1.m.time) ∧ w'.cell? ⟨w.heap.size + 1, 7, none⟩ = some (.slice x1.p x1.m.body.length x1.c))) (first | exact HCC.out _ HBB.out | exact HCC.out _ (HBB.out.alloc HBB.out.size _)) (first
      | (go_at_call 11
         refine (ans08_any _ (HN.out.below HBB.out)).mono ?_
         rintro e wa ⟨rfl, hba⟩
         have HBB := Lib.hid (HBB.out.trans (hba.mono HBB.out.size))
         clear hba)
      | (go_at_call 15
         refine (memGood_any x0.m x0.p x0.c _ (by have := HL.out.1; omega) (by have := HL.out.2; omega) (HN.out.below HBB.out).tabs).mono ?_
         rw [HGD.out]
         rintro e wa ⟨rfl, hba⟩
         have HBB := Lib.hid (HBB.out.trans (hba.mono HBB.out.size))
         clear hba)
      | (go_at_call 16
         refine (rgood_any x0.m x0.p x0.c _ HR0.out.1 HR0.out.2.1).mono ?_
         rw [HGD.out]
         rintro e wa ⟨rfl, hba⟩
         have HBB := Lib.hid (HBB.out.trans (hba.mono HBB.out.size))
         clear hba)
      | (go_at_call 17
         clear MARK
         refine (same_any x0.m x1.m x0.p x1.p x0.c x1.c _ (HA0.out.below HBB.out).bat (HA1.out.below HBB.out).bat).mono ?_
         rw [HSM.out]
         rintro e wa ⟨rfl, hba⟩
         have HBB := Lib.hid (HBB.out.trans (hba.mono HBB.out.size))
         clear hba)
      | (go_at_call 18
         refine (rsame_any x0.m x1.m x0.p x1.p x0.c x1.c _ (HA0.out.below HBB.out).bat (HA1.out.below HBB.out).bat).mono ?_
         rw [HSM.out]
         rintro e wa ⟨rfl, hba⟩
         have HBB := Lib.hid (HBB.out.trans (hba.mono HBB.out.size))
         clear hba)
      | (go_at_call 19
         refine Classical.byCases (p := Hid False) (fun HF => ?_) (fun HT => ?_)
         rotate_left
         · refine (rown_any _ 1 1 [x0] _ (mems_blk (y := x0) (Blk.new _ _ _) ((HA0.out.below HBB.out).below ((Below.refl _ _).alloc (Nat.le_refl _) _))) (by decide) (fun x hx => by rw [List.mem_singleton.1 hx]; have := HA0.out.le; have := HR0.out.2.2; omega)).mono ?_
           rintro e wa ⟨qa, da, ya, rfl, hme, hma, hba⟩
           obtain ⟨y, hy, hye⟩ := one_of hme hma.1
           subst hy
           obtain ⟨b3, o3, rfl, hb3, hBd, c0, c1, c2, c3, c4, c5, c6, c7⟩ := hma.cells8 (i := 0) (by decide)
           simp only [Nat.zero_mul, Nat.add_zero, List.getD_cons_zero] at hBd c0 c1 c2 c3 c4 c5 c6 c7
           have HYE := Lib.hid hye
           have HBD := Lib.hid hBd
           have HBB := Lib.hid ((HBB.out.alloc HBB.out.size _).trans (hba.mono (HBB.out.alloc HBB.out.size _).size))
           clear hba hme hma hb3 hBd hye
           rename_i K hK
           dsimp only
           refine hK.out _ _ ?_ (fun hHeld => ?_)
           · exact HCC.out _ HBB.out
           clear hK K
           refine wpAnyH_ready (rs := [22]) (by kernel_rfl) (by simp) ?_
           refine AllReadyH.cons rfl (fun K hK => ?_) AllReadyH.nil
           go_simp
           refine hK.out _ _ ?_ (fun hHeld => ?_)
           · exact HCC.out _ HBB.out
           clear hK K
           refine wpAnyH_ready (rs := [23]) (by kernel_rfl) (by simp) ?_
           refine AllReadyH.cons rfl (fun K hK => ?_) AllReadyH.nil
           go_simp
           refine hK.out _ _ ?_ (fun hHeld => ?_)
           · exact HCC.out _ HBB.out
           clear hK K
           refine wpAnyH_ready (rs := [24]) (by kernel_rfl) (by simp) ?_
           refine AllReadyH.cons rfl (fun K hK => ?_) AllReadyH.nil
           go_simp
           go_wp2_with (go_at_call 17; refine (same_any x0.m y.m x0.p y.p x0.c y.c _ (HA0.out.below HBB.out).bat HBD.out.bat).mono ?_; rw [show decide (x0.m = y.m) = true from decide_eq_true HYE.out.symm]; rintro e wb ⟨rfl, hbb⟩)
           have HBC := Lib.hid (HBB.out.trans (hbb.mono HBB.out.size))
           clear hbb
           refine hK.out _ _ ?_ (fun hHeld => ?_)
           · exact HCC.out _ HBC.out
           clear hK K
           refine wpAnyH_ready (rs := [25]) (by kernel_rfl) (by simp) ?_
           refine AllReadyH.cons rfl (fun K hK => ?_) AllReadyH.nil
           go_simp
           refine hK.out _ _ ?_ (fun hHeld => ?_)
           · exact HCC.out _ HBC.out
           clear hK K
           refine wpAnyH_ready (rs := [26]) (by kernel_rfl) (by simp) ?_
           refine AllReadyH.cons rfl (fun K hK => ?_) AllReadyH.nil
           go_simp
           refine hK.out _ _ ?_ (fun hHeld => ?_)
           · exact HCC.out _ HBC.out
           clear hK K
           refine wpAnyH_done (by kernel_rfl) ?_ _
           have FIN := Lib.hid (HB.out.trans (HBC.out.mono HB.out.size))
           go_wp2
           go_ret
           exact ⟨rfl, FIN.out⟩
         refine Calls.mono (R := fun e wa => e = .returned (.slice (some ⟨w.heap.size, 0, none⟩) 1 1) ∧ Below W2.heap.size W2 wa) HF.out.elim ?_
         rintro e wa ⟨rfl, hba⟩
         have HBB := Lib.hid hba
         clear hba)
      | (go_at_call 17
         refine Calls.mono (R := fun e wa => e = .returned (.bool true) ∧ Below W2.heap.size W2 wa) HF.out.elim ?_
         rintro e wa ⟨rfl, hba⟩
         have HBB := Lib.hid hba
         clear hba))
    all_goals
      exact HF.out.elim
end Go.Proofs.YtdjedimjhogdoaaGreatDoor.Walk
end
