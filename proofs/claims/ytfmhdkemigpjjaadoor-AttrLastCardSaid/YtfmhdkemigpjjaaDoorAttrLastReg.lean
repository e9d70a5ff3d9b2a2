/- AttrLast's two statements whose operations come in whatever order: each by what holds throughout, with a ghost for what is known only when it is there. -/
import Derived.Test.YtfmhdkemigpjjaaDoorAttrLaws
import Derived.Test.YtfmhdkemigpjjaaDoorRegionG
namespace Go.Proofs.YtfmhdkemigpjjaaDoor.Attr
open Go.ChangeShapes Go.WideShapes Go.ChangeAt Go.RowKit Go.Shelf Go.Proofs.YtfmhdkemigpjjaaDoor.Base Go.Proofs.YtfmhdkemigpjjaaDoor.Byt Go.Proofs.YtfmhdkemigpjjaaDoor.Txt Go.Proofs.YtfmhdkemigpjjaaDoor.Rec Go.Proofs.YtfmhdkemigpjjaaDoor.Bk Go.Proofs.YtfmhdkemigpjjaaDoor.Hp Go.Proofs.YtfmhdkemigpjjaaDoor.Head Go.Proofs.YtfmhdkemigpjjaaDoor.Mp Go.Lib
set_option linter.unusedVariables false
set_option maxRecDepth 100000

theorem run_append_recs {P : Program} {w : World} (t ty e : TypeId) (i : TypeInfo) (z : Value) (ht : P.underlying t = some (.slice e)) (hi : P.info? e = some i) (hz : i.zero = some z) (hsize : i.size = 2) (hby : i.bytes = 32) (hzs : z.cells.size = 2)
    (base : Nat) (v : Value) (n : Nat) (xs : RecL) (hown : w.ownsRow base e 2 v n (flatR xs)) (p : Option Addr) (m c : Nat) (rs : RecL) (hb : RecsAt w p m rs) (hsum : (n + m) * 32 ≤ 140737488355328) (hbase : base ≤ w.heap.size) :
    ∃ v' w', (Builtin.append_ #[t, t] ty #[v, .slice p m c]).run P w = .ok v' w' ∧ w'.ownsRow base e 2 v' (n + m) (flatR (xs ++ rs)) ∧ w.grownBy w' v.ownBlock := by
  have hl := hb.1
  rcases p with _ | ad
  · have hm : m = 0 := by
      rcases Nat.eq_zero_or_pos m with h0 | h0
      · exact h0
      · obtain ⟨_, _, he, _⟩ := hb.2 h0
        cases he
    subst hm
    obtain rfl : rs = [] := List.eq_nil_of_length_eq_zero hl
    refine ⟨v, w, ?_, by simpa using hown, World.grownBy.refl w _⟩
    rcases hown.2 with ⟨rfl, rfl⟩ | ⟨g, cap, cur, rfl, _, _, hnc, _⟩
    · simp [Builtin.append_, run_underlying ht, sizeOf, typeInfo, hi, Builtin.lenOf, Builtin.firstCells]
    · simp [Builtin.append_, run_underlying ht, sizeOf, typeInfo, hi, Builtin.lenOf, Builtin.firstCells, hnc, storeCells]
  · obtain ⟨v', w', h1, h2, h3, _⟩ := run_append_own (P := P) (w := w) base t ty e i z 2 32 ht hi hz hsize hby hzs (by decide) v n (flatR xs) hown ad m c (flatR rs) (by rw [flatR_length, hl]; omega) (fun j u hj => by
      have hjl : j < 2 * m := by
        have := (List.getElem?_eq_some_iff.1 hj).1
        rw [flatR_length, hl] at this
        exact this
      obtain ⟨b, off, he, _, hc⟩ := hb.2 (by omega)
      cases he
      obtain ⟨c0, c1⟩ := hc (j / 2) (by omega)
      obtain ⟨g0, g1⟩ := flatR_get rs (j / 2) (by omega)
      rw [add_plain]
      rcases Nat.mod_two_eq_zero_or_one j with hj2 | hj2
      · have e : j = 2 * (j / 2) := by omega
        rw [e] at hj
        rw [g0] at hj
        cases hj
        rw [show off + j = off + 2 * (j / 2) by omega]
        exact c0
      · have e : j = 2 * (j / 2) + 1 := by omega
        rw [e] at hj
        rw [g1] at hj
        cases hj
        rw [show off + j = off + 2 * (j / 2) + 1 by omega]
        exact c1) (flatR_one rs) (by unfold maxLen; omega) hsum hbase
    rw [← flatR_app] at h2
    exact ⟨v', w', h1, h2, h3⟩
section
variable {o : Oper} {a : Act} {w : World} {K : Act → World → Prop} {Q : Exit → Act → World → Prop}
theorem wp_appendR (x y : Operand) (ho : o.op = .call { callee := .builtin .append, args := #[x, y], argTypes := #[27, 27] }) (v : Value) (hx : a.eval x = v) (p : Option Addr) (m c : Nat) (hy : a.eval y = .slice p m c)
    (base n : Nat) (xs : RecL) (hown : w.ownsRow base 43 2 v n (flatR xs)) (rs : RecL) (hb : RecsAt w p m rs) (hsum : (n + m) * 32 ≤ 140737488355328) (hbase : base ≤ w.heap.size)
    (h : ∀ v' w', w'.ownsRow base 43 2 v' (n + m) (flatR (xs ++ rs)) → w.grownBy w' v.ownBlock → K (a.put o.dst v') w') : Oper.wp Tryd.prog o a w K Q := by
  obtain ⟨i0, hi0, hz0, hz1, hz2⟩ := info_parts infoRec
  obtain ⟨v', w', hrun, h1, h2⟩ := run_append_recs 27 o.type 43 i0 _ Tryd.underlying27 hi0 hz0 hz1 hz2 rfl base v n xs hown p m c rs hb hsum hbase
  have hr : (execOp a.eval o).run Tryd.prog w = .ok (.value v') w' := by simp [execOp, ho, resolve, invoke, builtin, hx, hy, hrun, Result.andThen]
  unfold Oper.wp
  rw [hr, Oper.upon_value]
  exact h v' w' h1 h2
theorem append_recs_g {ops : Array Oper} {rest : List Oper} {Q : Exit → Act → World → Prop} (hw : Region.wanted o (yielded ops a.tmps) = true) (x y : Operand) (ho : o.op = .call { callee := .builtin .append, args := #[x, y], argTypes := #[27, 27] }) (v : Value) (hx : a.eval x = v) (p : Option Addr) (m c : Nat) (hy : a.eval y = .slice p m c)
    (base n : Nat) (xs : RecL) (hown : w.ownsRow base 43 2 v n (flatR xs)) (rs : RecL) (hb : RecsAt w p m rs) (hsum : (n + m) * 32 ≤ 140737488355328) (hbase : base ≤ w.heap.size)
    (h : ∀ v' w', w'.ownsRow base 43 2 v' (n + m) (flatR (xs ++ rs)) → w.grownBy w' v.ownBlock → wpList Tryd.prog ops Q rest (a.put o.dst v') w') : wpList Tryd.prog ops Q (o :: rest) a w :=
  wpList_step fun K hK => by
    rw [if_pos hw]
    exact wp_appendR x y ho v hx p m c hy base n xs hown rs hb hsum hbase fun v' w' h1 h2 => hK _ _ (h v' w' h1 h2)
theorem bs_none (w : World) : (Instr.buildSlice 27 0 #[]).run Tryd.prog w = .ok (.slice (some ⟨w.heap.size, 0, none⟩) 0 0) (w.alloc (.cells #[] 43)) := by kernel_rfl
theorem bs_one (w : World) (x y : ByteArray) : (Instr.buildSlice 27 1 #[(0, .agg #[.string x, .string y])]).run Tryd.prog w = .ok (.slice (some ⟨w.heap.size, 0, none⟩) 1 1) (w.alloc (.cells #[.string x, .string y] 43)) := by kernel_rfl
theorem b_rec (w : World) (x y : ByteArray) : (Instr.build 43 #[(0, .string x), (1, .string y)]).run Tryd.prog w = .ok (.agg #[.string x, .string y]) w := by kernel_rfl
theorem al_head (w : World) : (Instr.alloc 25 true (.tuple #[])).run Tryd.prog w = .ok (.pointer (some ⟨w.heap.size, 0, none⟩)) (w.alloc (.cells (headC zeroH) 25)) := by kernel_rfl
theorem ld_head (w : World) (g : Nat) (h : HeadV) (hb : Blk w g 25 (headC h)) : (Instr.loadAt 25 (.pointer (some ⟨g, 0, none⟩))).run Tryd.prog w = .ok (.agg (headC h)) w := by
  have c0 := hb.cell
  unfold headC at c0 ⊢
  go_simp
theorem wp_storeH (p x : Operand) (ho : o.op = .store 25 p x) (g : Nat) (hp : a.eval p = .pointer (some ⟨g, 0, none⟩)) (h : HeadV) (hx : a.eval x = .agg (headC h)) (hz : Blk w g 25 (headC zeroH))
    (hK : ∀ w', Blk w' g 25 (headC h) → Kept (oneB g) w w' → K (a.put o.dst undef) w') : Oper.wp Tryd.prog o a w K Q := by
  have c0 := hz.cell
  have f0 := hz.frozen
  have h9 := blk9 hz
  unfold headC zeroH at c0
  simp only at c0
  have k9 : Kept (oneB g) w (((((((((w.setCell ⟨g, 0, none⟩ (.string (str h.name))).setCell ⟨g, 1, none⟩ (.string (str h.link))).setCell ⟨g, 2, none⟩ (.int .u8 (h.kind.toNat : Int))).setCell ⟨g, 3, none⟩ (.int .i64 h.mode)).setCell ⟨g, 4, none⟩ (.int .i64 h.uid)).setCell ⟨g, 5, none⟩ (.int .i64 h.gid)).setCell ⟨g, 6, none⟩ (.int .i64 h.time)).setCell ⟨g, 7, none⟩ (.int .i64 h.size)).setCell ⟨g, 8, none⟩ (.bool h.gnu)) :=
    (((((((((Kept.refl (oneB g) w).setCell (a := ⟨g, 0, none⟩) (.inr rfl) _).setCell (a := ⟨g, 1, none⟩) (.inr rfl) _).setCell (a := ⟨g, 2, none⟩) (.inr rfl) _).setCell (a := ⟨g, 3, none⟩) (.inr rfl) _).setCell (a := ⟨g, 4, none⟩) (.inr rfl) _).setCell (a := ⟨g, 5, none⟩) (.inr rfl) _).setCell (a := ⟨g, 6, none⟩) (.inr rfl) _).setCell (a := ⟨g, 7, none⟩) (.inr rfl) _).setCell (a := ⟨g, 8, none⟩) (.inr rfl) _
  clear hz
  have hr : (execOp a.eval o).run Tryd.prog w = .ok .skip (((((((((w.setCell ⟨g, 0, none⟩ (.string (str h.name))).setCell ⟨g, 1, none⟩ (.string (str h.link))).setCell ⟨g, 2, none⟩ (.int .u8 (h.kind.toNat : Int))).setCell ⟨g, 3, none⟩ (.int .i64 h.mode)).setCell ⟨g, 4, none⟩ (.int .i64 h.uid)).setCell ⟨g, 5, none⟩ (.int .i64 h.gid)).setCell ⟨g, 6, none⟩ (.int .i64 h.time)).setCell ⟨g, 7, none⟩ (.int .i64 h.size)).setCell ⟨g, 8, none⟩ (.bool h.gnu)) := by
    unfold headC at hx
    generalize a.eval = ev at hp hx
    simp [go_sem, execOp, ho, hp, hx, c0, f0, Result.andThen]
  unfold Oper.wp
  rw [hr, Oper.upon_skip]
  exact hK _ (h9 _ _ _ _ _ _ _ _ _) k9
end
/-- a row of records is no block of a head -/
theorem own_blk_ne {w : World} {base n b : Nat} {v : Value} {xs cs : List Value} {ds : Array Value} (ho : w.ownsRow base 43 2 v n xs) (hb : Blk w b 25 ds) : v.ownBlock ≠ some b := fun e => by
  rcases ho.2 with ⟨rfl, _⟩ | ⟨g, cap, cur, rfl, _, hg, _⟩
  · cases e
  · have hgb : g = b := by simpa [Value.ownBlock] using e
    subst hgb
    unfold Blk at hb
    rw [hg] at hb
    simp only [Option.some.injEq, Obj.cells.injEq] at hb
    exact absurd hb.2.1 (by decide)
theorem blk_grown {w w' : World} {b : Nat} {t : TypeId} {cs : Array Value} {row : Option Nat} (hb : Blk w b t cs) (hg : w.grownBy w' row) (hne : row ≠ some b) : Blk w' b t cs :=
  (hg.block b hb.lt (fun e => hne e.symm)).trans hb
theorem recs_blk {w : World} {b : Nat} {x y : List UInt8} (hb : Blk w b 43 #[.string (str x), .string (str y)]) : RecsAt w (some ⟨b, 0, none⟩) 1 [(x, y)] := by
  refine ⟨rfl, fun _ => ⟨b, 0, rfl, hb.lt, fun i hi => ?_⟩⟩
  obtain rfl : i = 0 := by omega
  exact ⟨hb.cell 0, hb.cell 1⟩
noncomputable def last6Ops : Array Oper := regionAt Tryd.f5 6
structure G6 where
  va : Value
  vb : Value
  vc : Value
  vd : Value
  bx : Nat
def v6 (g : Nat) (hv : HeadV) (ow : Value) (val : ByteArray) (X : HeadV × Int) (γ : G6) : Nat → Value
  | 0 => .pointer (some ⟨g, 0, none⟩) | 1 => .agg (headC hv) | 2 => γ.va | 3 => ow | 4 => γ.vb | 5 => .string val | 6 => .agg #[.string ⟨#[99, 111, 109, 109, 101, 110, 116]⟩, .string val] | 7 => γ.vc | 8 => γ.vd | 9 => headA X | 10 => headA X | 11 => .agg (headC X.1) | 12 => .int .i64 X.2 | 13 => .pointer (some ⟨γ.bx, 0, none⟩) | 15 => .int .i64 X.2 | _ => undef
theorem last6_size : last6Ops.size = 16 := rfl
theorem last6_apart : apartG last6Ops 103 = true := by kernel_rfl
theorem last6_dst0 : dstAt last6Ops 0 = some 38 := rfl
theorem last6_op0 : ∃ o, last6Ops[0]? = some o ∧ o.op = .move (.tmp 11) ∧ o.dst = some 38 := ⟨_, rfl, rfl, rfl⟩
theorem last6_dst1 : dstAt last6Ops 1 = some 39 := rfl
theorem last6_op1 : ∃ o, last6Ops[1]? = some o ∧ o.op = .load 25 (.tmp 5) ∧ o.dst = some 39 := ⟨_, rfl, rfl, rfl⟩
theorem last6_dst2 : dstAt last6Ops 2 = some 40 := rfl
theorem last6_op2 : ∃ o, last6Ops[2]? = some o ∧ o.op = .buildSlice 27 0 #[] ∧ o.dst = some 40 := ⟨_, rfl, rfl, rfl⟩
theorem last6_dst3 : dstAt last6Ops 3 = some 41 := rfl
theorem last6_op3 : ∃ o, last6Ops[3]? = some o ∧ o.op = .move (.tmp 2) ∧ o.dst = some 41 := ⟨_, rfl, rfl, rfl⟩
theorem last6_dst4 : dstAt last6Ops 4 = some 42 := rfl
theorem last6_op4 : ∃ o, last6Ops[4]? = some o ∧ o.op = .call { callee := .builtin .append, args := #[.tmp 40, .tmp 41], argTypes := #[27, 27] } ∧ o.dst = some 42 := ⟨_, rfl, rfl, rfl⟩
theorem last6_dst5 : dstAt last6Ops 5 = some 43 := rfl
theorem last6_op5 : ∃ o, last6Ops[5]? = some o ∧ o.op = .move (.tmp 4) ∧ o.dst = some 43 := ⟨_, rfl, rfl, rfl⟩
theorem last6_dst6 : dstAt last6Ops 6 = some 44 := rfl
theorem last6_op6 : ∃ o, last6Ops[6]? = some o ∧ o.op = .build 43 #[(0, .const (.string ⟨#[99, 111, 109, 109, 101, 110, 116]⟩)), (1, .tmp 43)] ∧ o.dst = some 44 := ⟨_, rfl, rfl, rfl⟩
theorem last6_dst7 : dstAt last6Ops 7 = some 45 := rfl
theorem last6_op7 : ∃ o, last6Ops[7]? = some o ∧ o.op = .buildSlice 27 1 #[(0, .tmp 44)] ∧ o.dst = some 45 := ⟨_, rfl, rfl, rfl⟩
theorem last6_dst8 : dstAt last6Ops 8 = some 46 := rfl
theorem last6_op8 : ∃ o, last6Ops[8]? = some o ∧ o.op = .call { callee := .builtin .append, args := #[.tmp 42, .tmp 45], argTypes := #[27, 27] } ∧ o.dst = some 46 := ⟨_, rfl, rfl, rfl⟩
theorem last6_dst9 : dstAt last6Ops 9 = some 47 := rfl
theorem last6_op9 : ∃ o, last6Ops[9]? = some o ∧ o.op = .call { callee := .value (.func 10), args := #[.tmp 38, .tmp 39, .tmp 46], argTypes := #[28, 25, 27] } ∧ o.dst = some 47 := ⟨_, rfl, rfl, rfl⟩
theorem last6_dst10 : dstAt last6Ops 10 = some 37 := rfl
theorem last6_op10 : ∃ o, last6Ops[10]? = some o ∧ o.op = .move (.tmp 47) ∧ o.dst = some 37 := ⟨_, rfl, rfl, rfl⟩
theorem last6_dst11 : dstAt last6Ops 11 = some 48 := rfl
theorem last6_op11 : ∃ o, last6Ops[11]? = some o ∧ o.op = .extract (.tmp 37) 0 ∧ o.dst = some 48 := ⟨_, rfl, rfl, rfl⟩
theorem last6_dst12 : dstAt last6Ops 12 = some 49 := rfl
theorem last6_op12 : ∃ o, last6Ops[12]? = some o ∧ o.op = .extract (.tmp 37) 1 ∧ o.dst = some 49 := ⟨_, rfl, rfl, rfl⟩
theorem last6_dst13 : dstAt last6Ops 13 = some 14 := rfl
theorem last6_op13 : ∃ o, last6Ops[13]? = some o ∧ o.op = .alloc 25 ∧ o.dst = some 14 := ⟨_, rfl, rfl, rfl⟩
theorem last6_dst14 : dstAt last6Ops 14 = none := rfl
theorem last6_op14 : ∃ o, last6Ops[14]? = some o ∧ o.op = .store 25 (.tmp 14) (.tmp 48) ∧ o.dst = none := ⟨_, rfl, rfl, rfl⟩
theorem last6_dst15 : dstAt last6Ops 15 = some 15 := rfl
theorem last6_op15 : ∃ o, last6Ops[15]? = some o ∧ o.op = .assign (.tmp 49) ∧ o.dst = some 15 := ⟨_, rfl, rfl, rfl⟩
theorem v6_va (g : Nat) (hv : HeadV) (ow : Value) (val : ByteArray) (X : HeadV × Int) (γ : G6) (x : Value) {i : Nat} (h : i ≠ 2) : v6 g hv ow val X { γ with va := x } i = v6 g hv ow val X γ i := by
  unfold v6
  split <;> first | rfl | exact absurd rfl h
theorem v6_vb (g : Nat) (hv : HeadV) (ow : Value) (val : ByteArray) (X : HeadV × Int) (γ : G6) (x : Value) {i : Nat} (h : i ≠ 4) : v6 g hv ow val X { γ with vb := x } i = v6 g hv ow val X γ i := by
  unfold v6
  split <;> first | rfl | exact absurd rfl h
theorem v6_vc (g : Nat) (hv : HeadV) (ow : Value) (val : ByteArray) (X : HeadV × Int) (γ : G6) (x : Value) {i : Nat} (h : i ≠ 7) : v6 g hv ow val X { γ with vc := x } i = v6 g hv ow val X γ i := by
  unfold v6
  split <;> first | rfl | exact absurd rfl h
theorem v6_vd (g : Nat) (hv : HeadV) (ow : Value) (val : ByteArray) (X : HeadV × Int) (γ : G6) (x : Value) {i : Nat} (h : i ≠ 8) : v6 g hv ow val X { γ with vd := x } i = v6 g hv ow val X γ i := by
  unfold v6
  split <;> first | rfl | exact absurd rfl h
theorem v6_bx (g : Nat) (hv : HeadV) (ow : Value) (val : ByteArray) (X : HeadV × Int) (γ : G6) (x : Nat) {i : Nat} (h : i ≠ 13) : v6 g hv ow val X { γ with bx := x } i = v6 g hv ow val X γ i := by
  unfold v6
  split <;> first | rfl | exact absurd rfl h
/-- what holds throughout -/
structure W6 (w3 : World) (n : Nat) (own : RecL) (cm val : List UInt8) (X : HeadV × Int) (γ : G6) (La Lb Lc Ld Le Lx Ls : Bool) (w : World) : Prop where
  bel : Below w3.heap.size w3 w
  ra : La = true → Lb = false → w.ownsRow w3.heap.size 43 2 γ.va 0 []
  rb : Lb = true → Ld = false → w.ownsRow w3.heap.size 43 2 γ.vb n (flatR own)
  rc : Lc = true → Ld = false → ∃ b, γ.vc = .slice (some ⟨b, 0, none⟩) 1 1 ∧ Blk w b 43 #[.string (str cm), .string (str val)] ∧ w3.heap.size ≤ b ∧ (La = true → Lb = false → γ.va.ownBlock ≠ some b)
  rd : Ld = true → Le = false → ∃ p c, γ.vd = .slice p (n + 1) c ∧ RecsAt w p (n + 1) (own ++ [(cm, val)])
  rx : Lx = true → w3.heap.size ≤ γ.bx ∧ Blk w γ.bx 25 (headC (if Ls = true then X.1 else zeroH))
  cd : Ld = true → Lb = true
  cc : Ld = true → Lc = true
  ce : Le = true → Ld = true
  cs : Ls = true → Le = true ∧ Lx = true
set_option maxHeartbeats 4000000 in
theorem last6_region {Q' : Exit → Act → World → Prop} {a0 : Act} {w3 : World} (g gb : Nat) (hv : HeadV) (p1 : Option Addr) (n c1 : Nat) (own : RecL) (val : List UInt8) (X : HeadV × Int)
    (hsz : 103 ≤ a0.tmps.size) (h11 : a0.eval (.tmp 11) = .pointer (some ⟨g, 0, none⟩)) (h5 : a0.eval (.tmp 5) = .pointer (some ⟨gb, 0, none⟩)) (hbox : Blk w3 gb 25 (headC hv)) (h2 : a0.eval (.tmp 2) = .slice p1 n c1) (hown : RecsAt w3 p1 n own) (hn : n ≤ 100)
    (h4 : a0.eval (.tmp 4) = .string (str val))
    (hcall : ∀ w p c, Below w3.heap.size w3 w → RecsAt w p (n + 1) (own ++ [([99, 111, 109, 109, 101, 110, 116], val)]) → Calls Tryd.prog 10 #[.pointer (some ⟨g, 0, none⟩), .agg (headC hv), .slice p (n + 1) c] w fun e w' => e = .returned (headA X) ∧ Below w.heap.size w w')
    (hQ : ∀ (γ : G6) w', Below w3.heap.size w3 w' → w3.heap.size ≤ γ.bx → Blk w' γ.bx 25 (headC X.1) → Q' .normal (((((((((((((((a0.put (some 38) (.pointer (some ⟨g, 0, none⟩))).put (some 39) (.agg (headC hv))).put (some 40) (γ.va)).put (some 41) (.slice p1 n c1)).put (some 42) (γ.vb)).put (some 43) (.string (str val))).put (some 44) (.agg #[.string ⟨#[99, 111, 109, 109, 101, 110, 116]⟩, .string (str val)])).put (some 45) (γ.vc)).put (some 46) (γ.vd)).put (some 47) (headA X)).put (some 37) (headA X)).put (some 48) (.agg (headC X.1))).put (some 49) (.int .i64 X.2)).put (some 14) (.pointer (some ⟨γ.bx, 0, none⟩))).put (some 15) (.int .i64 X.2)) w') :
    wpAny Tryd.prog .any last6Ops Q' last6Ops.size (Array.replicate last6Ops.size false) a0 w3.drew := by
  have no : ∀ j, (Array.replicate last6Ops.size false).getD j false = false := fun j => by
    rw [Array.getD_eq_getD_getElem?, Array.getElem?_replicate]
    split <;> rfl
  refine wpAny_ghost (Γ := G6) (v6 g hv (.slice p1 n c1) (str val) X) { va := undef, vb := undef, vc := undef, vd := undef, bx := 0 } a0 (fun γ listed w => W6 w3 n own [99, 111, 109, 109, 101, 110, 116] val X γ (listed.getD 2 false) (listed.getD 4 false) (listed.getD 7 false) (listed.getD 8 false) (listed.getD 9 false) (listed.getD 13 false) (listed.getD 14 false) w) 103 last6_apart hsz ?_ ?_ ?_
  · intro γ listed a w j o h ho hun hdep
    have hlt := lt_of_unlisted hun
    have hW := h.wd
    have hj : j < 16 := by
      have := (Array.getElem?_eq_some_iff.1 ho).1
      rwa [last6_size] at this
    have same : ∀ {j' : Nat} {o' : Oper}, last6Ops[j']? = some o' → j = j' → o' = o := fun {j' o'} h' e => by subst e; exact Option.some.inj (h'.symm.trans ho)
    have hlf := getD_flip hun
    have hne : ∀ i, listed.getD i false = true → i ≠ j := fun i hi e => by rw [e, hlf] at hi; cases hi
    rcases (show j = 0 ∨ j = 1 ∨ j = 2 ∨ j = 3 ∨ j = 4 ∨ j = 5 ∨ j = 6 ∨ j = 7 ∨ j = 8 ∨ j = 9 ∨ j = 10 ∨ j = 11 ∨ j = 12 ∨ j = 13 ∨ j = 14 ∨ j = 15 by omega) with rfl | rfl | rfl | rfl | rfl | rfl | rfl | rfl | rfl | rfl | rfl | rfl | rfl | rfl | rfl | rfl
    · obtain ⟨o', ho', hop, hdst⟩ := last6_op0
      obtain rfl := same ho' rfl
      have eLa : (listed.setIfInBounds 0 true).getD 2 false = listed.getD 2 false := by rw [listed_get hlt, if_neg (by decide)]
      have eLb : (listed.setIfInBounds 0 true).getD 4 false = listed.getD 4 false := by rw [listed_get hlt, if_neg (by decide)]
      have eLc : (listed.setIfInBounds 0 true).getD 7 false = listed.getD 7 false := by rw [listed_get hlt, if_neg (by decide)]
      have eLd : (listed.setIfInBounds 0 true).getD 8 false = listed.getD 8 false := by rw [listed_get hlt, if_neg (by decide)]
      have eLe : (listed.setIfInBounds 0 true).getD 9 false = listed.getD 9 false := by rw [listed_get hlt, if_neg (by decide)]
      have eLx : (listed.setIfInBounds 0 true).getD 13 false = listed.getD 13 false := by rw [listed_get hlt, if_neg (by decide)]
      have eLs : (listed.setIfInBounds 0 true).getD 14 false = listed.getD 14 false := by rw [listed_get hlt, if_neg (by decide)]
      have keep : W6 w3 n own [99, 111, 109, 109, 101, 110, 116] val X γ ((listed.setIfInBounds 0 true).getD 2 false) ((listed.setIfInBounds 0 true).getD 4 false) ((listed.setIfInBounds 0 true).getD 7 false) ((listed.setIfInBounds 0 true).getD 8 false) ((listed.setIfInBounds 0 true).getD 9 false) ((listed.setIfInBounds 0 true).getD 13 false) ((listed.setIfInBounds 0 true).getD 14 false) w := by rw [eLa, eLb, eLc, eLd, eLe, eLx, eLs]; exact hW
      exact wp_move _ _ (Or.inl hop) ((h.old (t := 11) (by kernel_rfl)).trans h11) ⟨γ, fun _ _ => rfl, rfl, keep⟩
    · obtain ⟨o', ho', hop, hdst⟩ := last6_op1
      obtain rfl := same ho' rfl
      have eLa : (listed.setIfInBounds 1 true).getD 2 false = listed.getD 2 false := by rw [listed_get hlt, if_neg (by decide)]
      have eLb : (listed.setIfInBounds 1 true).getD 4 false = listed.getD 4 false := by rw [listed_get hlt, if_neg (by decide)]
      have eLc : (listed.setIfInBounds 1 true).getD 7 false = listed.getD 7 false := by rw [listed_get hlt, if_neg (by decide)]
      have eLd : (listed.setIfInBounds 1 true).getD 8 false = listed.getD 8 false := by rw [listed_get hlt, if_neg (by decide)]
      have eLe : (listed.setIfInBounds 1 true).getD 9 false = listed.getD 9 false := by rw [listed_get hlt, if_neg (by decide)]
      have eLx : (listed.setIfInBounds 1 true).getD 13 false = listed.getD 13 false := by rw [listed_get hlt, if_neg (by decide)]
      have eLs : (listed.setIfInBounds 1 true).getD 14 false = listed.getD 14 false := by rw [listed_get hlt, if_neg (by decide)]
      have keep : W6 w3 n own [99, 111, 109, 109, 101, 110, 116] val X γ ((listed.setIfInBounds 1 true).getD 2 false) ((listed.setIfInBounds 1 true).getD 4 false) ((listed.setIfInBounds 1 true).getD 7 false) ((listed.setIfInBounds 1 true).getD 8 false) ((listed.setIfInBounds 1 true).getD 9 false) ((listed.setIfInBounds 1 true).getD 13 false) ((listed.setIfInBounds 1 true).getD 14 false) w := by rw [eLa, eLb, eLc, eLd, eLe, eLx, eLs]; exact hW
      have e : a.eval (.tmp 5) = .pointer (some ⟨gb, 0, none⟩) := (h.old (t := 5) (by kernel_rfl)).trans h5
      refine wp_run _ ?_ ⟨γ, fun _ _ => rfl, rfl, keep⟩
      have q := ld_head w gb hv (hbox.below hW.bel hbox.lt)
      simp [execOp, hop, e, q, Result.andThen, v6]
    · obtain ⟨o', ho', hop, hdst⟩ := last6_op2
      obtain rfl := same ho' rfl
      have eLa : (listed.setIfInBounds 2 true).getD 2 false = true := by rw [listed_get hlt, if_pos rfl]
      have eLb : (listed.setIfInBounds 2 true).getD 4 false = listed.getD 4 false := by rw [listed_get hlt, if_neg (by decide)]
      have eLc : (listed.setIfInBounds 2 true).getD 7 false = listed.getD 7 false := by rw [listed_get hlt, if_neg (by decide)]
      have eLd : (listed.setIfInBounds 2 true).getD 8 false = listed.getD 8 false := by rw [listed_get hlt, if_neg (by decide)]
      have eLe : (listed.setIfInBounds 2 true).getD 9 false = listed.getD 9 false := by rw [listed_get hlt, if_neg (by decide)]
      have eLx : (listed.setIfInBounds 2 true).getD 13 false = listed.getD 13 false := by rw [listed_get hlt, if_neg (by decide)]
      have eLs : (listed.setIfInBounds 2 true).getD 14 false = listed.getD 14 false := by rw [listed_get hlt, if_neg (by decide)]
      have q := bs_none w
      have hr : (execOp a.eval o').run Tryd.prog w = .ok (.value (.slice (some ⟨w.heap.size, 0, none⟩) 0 0)) (w.alloc (.cells #[] 43)) := by simp [execOp, hop, q, Result.andThen]
      have hba : Below w.heap.size w (w.alloc (.cells #[] 43)) := (Below.refl _ w).alloc (Nat.le_refl _) _
      unfold Oper.wp
      rw [hr, Oper.upon_value]
      refine ⟨{ γ with va := .slice (some ⟨w.heap.size, 0, none⟩) 0 0 }, fun i hi => v6_va _ _ _ _ _ _ _ (hne i hi), rfl, ?_⟩
      rw [eLa, eLb, eLc, eLd, eLe, eLx, eLs]
      refine { bel := hW.bel.alloc hW.bel.size _, ra := ?_, rb := fun h1 h2 => own_below (hW.rb h1 h2) hba, rc := ?_, rd := fun h1 h2 => ?_, rx := ?_, cd := hW.cd, cc := ?_, ce := hW.ce, cs := ?_ }
      · exact fun _ _ => World.ownsRow_made w #[] 0 hW.bel.size (by decide) rfl
      · intro h1 h2
        obtain ⟨b, e1, e2, e3, e4⟩ := hW.rc h1 h2
        exact ⟨b, e1, e2.alloc _, e3, fun _ _ e => by have h5 := e2.lt; simp only [Value.ownBlock, Option.some.injEq] at e; omega⟩
      · obtain ⟨p, c, e1, e2⟩ := hW.rd h1 h2
        exact ⟨p, c, e1, e2.below hba⟩
      · intro h1
        obtain ⟨e1, e2⟩ := hW.rx h1
        exact ⟨e1, e2.alloc _⟩
      · exact hW.cc
      · exact hW.cs
    · obtain ⟨o', ho', hop, hdst⟩ := last6_op3
      obtain rfl := same ho' rfl
      have eLa : (listed.setIfInBounds 3 true).getD 2 false = listed.getD 2 false := by rw [listed_get hlt, if_neg (by decide)]
      have eLb : (listed.setIfInBounds 3 true).getD 4 false = listed.getD 4 false := by rw [listed_get hlt, if_neg (by decide)]
      have eLc : (listed.setIfInBounds 3 true).getD 7 false = listed.getD 7 false := by rw [listed_get hlt, if_neg (by decide)]
      have eLd : (listed.setIfInBounds 3 true).getD 8 false = listed.getD 8 false := by rw [listed_get hlt, if_neg (by decide)]
      have eLe : (listed.setIfInBounds 3 true).getD 9 false = listed.getD 9 false := by rw [listed_get hlt, if_neg (by decide)]
      have eLx : (listed.setIfInBounds 3 true).getD 13 false = listed.getD 13 false := by rw [listed_get hlt, if_neg (by decide)]
      have eLs : (listed.setIfInBounds 3 true).getD 14 false = listed.getD 14 false := by rw [listed_get hlt, if_neg (by decide)]
      have keep : W6 w3 n own [99, 111, 109, 109, 101, 110, 116] val X γ ((listed.setIfInBounds 3 true).getD 2 false) ((listed.setIfInBounds 3 true).getD 4 false) ((listed.setIfInBounds 3 true).getD 7 false) ((listed.setIfInBounds 3 true).getD 8 false) ((listed.setIfInBounds 3 true).getD 9 false) ((listed.setIfInBounds 3 true).getD 13 false) ((listed.setIfInBounds 3 true).getD 14 false) w := by rw [eLa, eLb, eLc, eLd, eLe, eLx, eLs]; exact hW
      exact wp_move _ _ (Or.inl hop) ((h.old (t := 2) (by kernel_rfl)).trans h2) ⟨γ, fun _ _ => rfl, rfl, keep⟩
    · obtain ⟨o', ho', hop, hdst⟩ := last6_op4
      obtain rfl := same ho' rfl
      have eLa : (listed.setIfInBounds 4 true).getD 2 false = listed.getD 2 false := by rw [listed_get hlt, if_neg (by decide)]
      have eLb : (listed.setIfInBounds 4 true).getD 4 false = true := by rw [listed_get hlt, if_pos rfl]
      have eLc : (listed.setIfInBounds 4 true).getD 7 false = listed.getD 7 false := by rw [listed_get hlt, if_neg (by decide)]
      have eLd : (listed.setIfInBounds 4 true).getD 8 false = listed.getD 8 false := by rw [listed_get hlt, if_neg (by decide)]
      have eLe : (listed.setIfInBounds 4 true).getD 9 false = listed.getD 9 false := by rw [listed_get hlt, if_neg (by decide)]
      have eLx : (listed.setIfInBounds 4 true).getD 13 false = listed.getD 13 false := by rw [listed_get hlt, if_neg (by decide)]
      have eLs : (listed.setIfInBounds 4 true).getD 14 false = listed.getD 14 false := by rw [listed_get hlt, if_neg (by decide)]
      have e0 : a.eval (.tmp 40) = γ.va := (h.get ho hdep (i := 2) (d := 40) (by kernel_rfl) rfl)
      have e1 : a.eval (.tmp 41) = .slice p1 n c1 := (h.get ho hdep (i := 3) (d := 41) (by kernel_rfl) rfl)
      have la : listed.getD 2 false = true := dep_listed ho hdep (by kernel_rfl)
      have hra := hW.ra la hlf
      refine wp_appendR _ _ hop _ e0 p1 n c1 e1 w3.heap.size 0 [] hra own (hown.below hW.bel) (by omega) hW.bel.size (fun v' w' h1 h2 => ⟨{ γ with vb := v' }, fun i hi => v6_vb _ _ _ _ _ _ _ (hne i hi), rfl, ?_⟩)
      rw [eLa, eLb, eLc, eLd, eLe, eLx, eLs]
      refine { bel := below_own hW.bel hra (Nat.le_refl _) h2, ra := fun _ hx => (by cases hx), rb := fun _ _ => (by simpa using h1), rc := ?_, rd := fun hx _ => absurd (hW.cd hx) (by rw [hlf]; decide), rx := ?_, cd := fun _ => rfl, cc := hW.cc, ce := hW.ce, cs := hW.cs }
      · intro h3 h4
        obtain ⟨b, e1, e2, e3, e4⟩ := hW.rc h3 h4
        exact ⟨b, e1, blk_grown e2 h2 (e4 la hlf), e3, fun _ hx => by cases hx⟩
      · intro h3
        obtain ⟨e1, e2⟩ := hW.rx h3
        exact ⟨e1, blk_grown e2 h2 (own_blk_ne (cs := []) hra e2)⟩
    · obtain ⟨o', ho', hop, hdst⟩ := last6_op5
      obtain rfl := same ho' rfl
      have eLa : (listed.setIfInBounds 5 true).getD 2 false = listed.getD 2 false := by rw [listed_get hlt, if_neg (by decide)]
      have eLb : (listed.setIfInBounds 5 true).getD 4 false = listed.getD 4 false := by rw [listed_get hlt, if_neg (by decide)]
      have eLc : (listed.setIfInBounds 5 true).getD 7 false = listed.getD 7 false := by rw [listed_get hlt, if_neg (by decide)]
      have eLd : (listed.setIfInBounds 5 true).getD 8 false = listed.getD 8 false := by rw [listed_get hlt, if_neg (by decide)]
      have eLe : (listed.setIfInBounds 5 true).getD 9 false = listed.getD 9 false := by rw [listed_get hlt, if_neg (by decide)]
      have eLx : (listed.setIfInBounds 5 true).getD 13 false = listed.getD 13 false := by rw [listed_get hlt, if_neg (by decide)]
      have eLs : (listed.setIfInBounds 5 true).getD 14 false = listed.getD 14 false := by rw [listed_get hlt, if_neg (by decide)]
      have keep : W6 w3 n own [99, 111, 109, 109, 101, 110, 116] val X γ ((listed.setIfInBounds 5 true).getD 2 false) ((listed.setIfInBounds 5 true).getD 4 false) ((listed.setIfInBounds 5 true).getD 7 false) ((listed.setIfInBounds 5 true).getD 8 false) ((listed.setIfInBounds 5 true).getD 9 false) ((listed.setIfInBounds 5 true).getD 13 false) ((listed.setIfInBounds 5 true).getD 14 false) w := by rw [eLa, eLb, eLc, eLd, eLe, eLx, eLs]; exact hW
      exact wp_move _ _ (Or.inl hop) ((h.old (t := 4) (by kernel_rfl)).trans h4) ⟨γ, fun _ _ => rfl, rfl, keep⟩
    · obtain ⟨o', ho', hop, hdst⟩ := last6_op6
      obtain rfl := same ho' rfl
      have eLa : (listed.setIfInBounds 6 true).getD 2 false = listed.getD 2 false := by rw [listed_get hlt, if_neg (by decide)]
      have eLb : (listed.setIfInBounds 6 true).getD 4 false = listed.getD 4 false := by rw [listed_get hlt, if_neg (by decide)]
      have eLc : (listed.setIfInBounds 6 true).getD 7 false = listed.getD 7 false := by rw [listed_get hlt, if_neg (by decide)]
      have eLd : (listed.setIfInBounds 6 true).getD 8 false = listed.getD 8 false := by rw [listed_get hlt, if_neg (by decide)]
      have eLe : (listed.setIfInBounds 6 true).getD 9 false = listed.getD 9 false := by rw [listed_get hlt, if_neg (by decide)]
      have eLx : (listed.setIfInBounds 6 true).getD 13 false = listed.getD 13 false := by rw [listed_get hlt, if_neg (by decide)]
      have eLs : (listed.setIfInBounds 6 true).getD 14 false = listed.getD 14 false := by rw [listed_get hlt, if_neg (by decide)]
      have keep : W6 w3 n own [99, 111, 109, 109, 101, 110, 116] val X γ ((listed.setIfInBounds 6 true).getD 2 false) ((listed.setIfInBounds 6 true).getD 4 false) ((listed.setIfInBounds 6 true).getD 7 false) ((listed.setIfInBounds 6 true).getD 8 false) ((listed.setIfInBounds 6 true).getD 9 false) ((listed.setIfInBounds 6 true).getD 13 false) ((listed.setIfInBounds 6 true).getD 14 false) w := by rw [eLa, eLb, eLc, eLd, eLe, eLx, eLs]; exact hW
      have e : a.eval (.tmp 43) = .string (str val) := (h.get ho hdep (i := 5) (d := 43) (by kernel_rfl) rfl)
      refine wp_run _ ?_ ⟨γ, fun _ _ => rfl, rfl, keep⟩
      have q := b_rec w ⟨#[99, 111, 109, 109, 101, 110, 116]⟩ (str val)
      simp [execOp, hop, e, evalC, q, Result.andThen, v6]
    · obtain ⟨o', ho', hop, hdst⟩ := last6_op7
      obtain rfl := same ho' rfl
      have eLa : (listed.setIfInBounds 7 true).getD 2 false = listed.getD 2 false := by rw [listed_get hlt, if_neg (by decide)]
      have eLb : (listed.setIfInBounds 7 true).getD 4 false = listed.getD 4 false := by rw [listed_get hlt, if_neg (by decide)]
      have eLc : (listed.setIfInBounds 7 true).getD 7 false = true := by rw [listed_get hlt, if_pos rfl]
      have eLd : (listed.setIfInBounds 7 true).getD 8 false = listed.getD 8 false := by rw [listed_get hlt, if_neg (by decide)]
      have eLe : (listed.setIfInBounds 7 true).getD 9 false = listed.getD 9 false := by rw [listed_get hlt, if_neg (by decide)]
      have eLx : (listed.setIfInBounds 7 true).getD 13 false = listed.getD 13 false := by rw [listed_get hlt, if_neg (by decide)]
      have eLs : (listed.setIfInBounds 7 true).getD 14 false = listed.getD 14 false := by rw [listed_get hlt, if_neg (by decide)]
      have e0 : a.eval (.tmp 44) = .agg #[.string ⟨#[99, 111, 109, 109, 101, 110, 116]⟩, .string (str val)] := (h.get ho hdep (i := 6) (d := 44) (by kernel_rfl) rfl)
      have q := bs_one w ⟨#[99, 111, 109, 109, 101, 110, 116]⟩ (str val)
      have hr : (execOp a.eval o').run Tryd.prog w = .ok (.value (.slice (some ⟨w.heap.size, 0, none⟩) 1 1)) (w.alloc (.cells #[.string ⟨#[99, 111, 109, 109, 101, 110, 116]⟩, .string (str val)] 43)) := by simp [execOp, hop, e0, q, Result.andThen]
      have hba : Below w.heap.size w (w.alloc (.cells #[.string ⟨#[99, 111, 109, 109, 101, 110, 116]⟩, .string (str val)] 43)) := (Below.refl _ w).alloc (Nat.le_refl _) _
      unfold Oper.wp
      rw [hr, Oper.upon_value]
      refine ⟨{ γ with vc := .slice (some ⟨w.heap.size, 0, none⟩) 1 1 }, fun i hi => v6_vc _ _ _ _ _ _ _ (hne i hi), rfl, ?_⟩
      rw [eLa, eLb, eLc, eLd, eLe, eLx, eLs]
      refine { bel := hW.bel.alloc hW.bel.size _, ra := ?_, rb := fun h1 h2 => own_below (hW.rb h1 h2) hba, rc := ?_, rd := fun h1 h2 => ?_, rx := ?_, cd := hW.cd, cc := ?_, ce := hW.ce, cs := ?_ }
      · exact fun h1 h2 => own_below (hW.ra h1 h2) hba
      · exact fun _ _ => ⟨w.heap.size, rfl, Blk.new w _ _, hW.bel.size, fun h1 h2 e => by have := ((hW.ra h1 h2).lt _ e).2; omega⟩
      · obtain ⟨p, c, e1, e2⟩ := hW.rd h1 h2
        exact ⟨p, c, e1, e2.below hba⟩
      · intro h1
        obtain ⟨e1, e2⟩ := hW.rx h1
        exact ⟨e1, e2.alloc _⟩
      · exact fun _ => rfl
      · exact hW.cs
    · obtain ⟨o', ho', hop, hdst⟩ := last6_op8
      obtain rfl := same ho' rfl
      have eLa : (listed.setIfInBounds 8 true).getD 2 false = listed.getD 2 false := by rw [listed_get hlt, if_neg (by decide)]
      have eLb : (listed.setIfInBounds 8 true).getD 4 false = listed.getD 4 false := by rw [listed_get hlt, if_neg (by decide)]
      have eLc : (listed.setIfInBounds 8 true).getD 7 false = listed.getD 7 false := by rw [listed_get hlt, if_neg (by decide)]
      have eLd : (listed.setIfInBounds 8 true).getD 8 false = true := by rw [listed_get hlt, if_pos rfl]
      have eLe : (listed.setIfInBounds 8 true).getD 9 false = listed.getD 9 false := by rw [listed_get hlt, if_neg (by decide)]
      have eLx : (listed.setIfInBounds 8 true).getD 13 false = listed.getD 13 false := by rw [listed_get hlt, if_neg (by decide)]
      have eLs : (listed.setIfInBounds 8 true).getD 14 false = listed.getD 14 false := by rw [listed_get hlt, if_neg (by decide)]
      have e0 : a.eval (.tmp 42) = γ.vb := (h.get ho hdep (i := 4) (d := 42) (by kernel_rfl) rfl)
      have lb : listed.getD 4 false = true := dep_listed ho hdep (by kernel_rfl)
      have hrb := hW.rb lb hlf
      have e1 : a.eval (.tmp 45) = γ.vc := (h.get ho hdep (i := 7) (d := 45) (by kernel_rfl) rfl)
      have lc : listed.getD 7 false = true := dep_listed ho hdep (by kernel_rfl)
      obtain ⟨b, hvc, hbc, _, _⟩ := hW.rc lc hlf
      rw [hvc] at e1
      refine wp_appendR _ _ hop _ e0 (some ⟨b, 0, none⟩) 1 1 e1 w3.heap.size n own hrb [([99, 111, 109, 109, 101, 110, 116], val)] (recs_blk hbc) (by omega) hW.bel.size (fun v' w' h1 h2 => ⟨{ γ with vd := v' }, fun i hi => v6_vd _ _ _ _ _ _ _ (hne i hi), rfl, ?_⟩)
      rw [eLa, eLb, eLc, eLd, eLe, eLx, eLs]
      refine { bel := below_own hW.bel hrb (Nat.le_refl _) h2, ra := fun _ hx => absurd lb (by rw [hx]; decide), rb := fun _ hx => (by cases hx), rc := fun _ hx => (by cases hx), rd := fun _ _ => ?_, rx := ?_, cd := fun _ => lb, cc := fun _ => lc, ce := fun _ => rfl, cs := hW.cs }
      · have hlen : (own ++ [([99, 111, 109, 109, 101, 110, 116], val)]).length = n + 1 := by rw [List.length_append, hown.1]; rfl
        rw [← hlen] at h1
        obtain ⟨p, c, hv', _, _, hr⟩ := recs_own h1
        rw [hlen] at hv' hr
        exact ⟨p, c, hv', hr⟩
      · intro h3
        obtain ⟨e1, e2⟩ := hW.rx h3
        exact ⟨e1, blk_grown e2 h2 (own_blk_ne (cs := []) hrb e2)⟩
    · obtain ⟨o', ho', hop, hdst⟩ := last6_op9
      obtain rfl := same ho' rfl
      have eLa : (listed.setIfInBounds 9 true).getD 2 false = listed.getD 2 false := by rw [listed_get hlt, if_neg (by decide)]
      have eLb : (listed.setIfInBounds 9 true).getD 4 false = listed.getD 4 false := by rw [listed_get hlt, if_neg (by decide)]
      have eLc : (listed.setIfInBounds 9 true).getD 7 false = listed.getD 7 false := by rw [listed_get hlt, if_neg (by decide)]
      have eLd : (listed.setIfInBounds 9 true).getD 8 false = listed.getD 8 false := by rw [listed_get hlt, if_neg (by decide)]
      have eLe : (listed.setIfInBounds 9 true).getD 9 false = true := by rw [listed_get hlt, if_pos rfl]
      have eLx : (listed.setIfInBounds 9 true).getD 13 false = listed.getD 13 false := by rw [listed_get hlt, if_neg (by decide)]
      have eLs : (listed.setIfInBounds 9 true).getD 14 false = listed.getD 14 false := by rw [listed_get hlt, if_neg (by decide)]
      have e0 : a.eval (.tmp 38) = .pointer (some ⟨g, 0, none⟩) := (h.get ho hdep (i := 0) (d := 38) (by kernel_rfl) rfl)
      have e1 : a.eval (.tmp 39) = .agg (headC hv) := (h.get ho hdep (i := 1) (d := 39) (by kernel_rfl) rfl)
      have e2 : a.eval (.tmp 46) = γ.vd := (h.get ho hdep (i := 8) (d := 46) (by kernel_rfl) rfl)
      have ld : listed.getD 8 false = true := dep_listed ho hdep (by kernel_rfl)
      obtain ⟨p, c, hvd, hr⟩ := hW.rd ld hlf
      rw [hvd] at e2
      refine wp_call _ _ _ hop #[.pointer (some ⟨g, 0, none⟩), .agg (headC hv), .slice p (n + 1) c] (by simp [e0, e1, e2]) (enters_of Tryd.func10 (by kernel_rfl) rfl) (headA X) (fun w' => Below w.heap.size w w') (hcall w p c hW.bel hr) (fun w' hb => ⟨γ, fun _ _ => rfl, rfl, ?_⟩)
      rw [eLa, eLb, eLc, eLd, eLe, eLx, eLs]
      refine { bel := hW.bel.trans (hb.mono hW.bel.size), ra := fun h1 h2 => own_below (hW.ra h1 h2) hb, rb := fun h1 h2 => own_below (hW.rb h1 h2) hb, rc := ?_, rd := fun _ hx => (by cases hx), rx := ?_, cd := hW.cd, cc := hW.cc, ce := fun _ => ld, cs := fun h1 => ⟨rfl, (hW.cs h1).2⟩ }
      · intro h3 h4
        obtain ⟨b, e1, e2, e3, e4⟩ := hW.rc h3 h4
        exact ⟨b, e1, e2.below hb e2.lt, e3, e4⟩
      · intro h3
        obtain ⟨e1, e2⟩ := hW.rx h3
        exact ⟨e1, e2.below hb e2.lt⟩
    · obtain ⟨o', ho', hop, hdst⟩ := last6_op10
      obtain rfl := same ho' rfl
      have eLa : (listed.setIfInBounds 10 true).getD 2 false = listed.getD 2 false := by rw [listed_get hlt, if_neg (by decide)]
      have eLb : (listed.setIfInBounds 10 true).getD 4 false = listed.getD 4 false := by rw [listed_get hlt, if_neg (by decide)]
      have eLc : (listed.setIfInBounds 10 true).getD 7 false = listed.getD 7 false := by rw [listed_get hlt, if_neg (by decide)]
      have eLd : (listed.setIfInBounds 10 true).getD 8 false = listed.getD 8 false := by rw [listed_get hlt, if_neg (by decide)]
      have eLe : (listed.setIfInBounds 10 true).getD 9 false = listed.getD 9 false := by rw [listed_get hlt, if_neg (by decide)]
      have eLx : (listed.setIfInBounds 10 true).getD 13 false = listed.getD 13 false := by rw [listed_get hlt, if_neg (by decide)]
      have eLs : (listed.setIfInBounds 10 true).getD 14 false = listed.getD 14 false := by rw [listed_get hlt, if_neg (by decide)]
      have keep : W6 w3 n own [99, 111, 109, 109, 101, 110, 116] val X γ ((listed.setIfInBounds 10 true).getD 2 false) ((listed.setIfInBounds 10 true).getD 4 false) ((listed.setIfInBounds 10 true).getD 7 false) ((listed.setIfInBounds 10 true).getD 8 false) ((listed.setIfInBounds 10 true).getD 9 false) ((listed.setIfInBounds 10 true).getD 13 false) ((listed.setIfInBounds 10 true).getD 14 false) w := by rw [eLa, eLb, eLc, eLd, eLe, eLx, eLs]; exact hW
      exact wp_move _ _ (Or.inl hop) (h.get ho hdep (i := 9) (d := 47) (by kernel_rfl) rfl) ⟨γ, fun _ _ => rfl, rfl, keep⟩
    · obtain ⟨o', ho', hop, hdst⟩ := last6_op11
      obtain rfl := same ho' rfl
      have eLa : (listed.setIfInBounds 11 true).getD 2 false = listed.getD 2 false := by rw [listed_get hlt, if_neg (by decide)]
      have eLb : (listed.setIfInBounds 11 true).getD 4 false = listed.getD 4 false := by rw [listed_get hlt, if_neg (by decide)]
      have eLc : (listed.setIfInBounds 11 true).getD 7 false = listed.getD 7 false := by rw [listed_get hlt, if_neg (by decide)]
      have eLd : (listed.setIfInBounds 11 true).getD 8 false = listed.getD 8 false := by rw [listed_get hlt, if_neg (by decide)]
      have eLe : (listed.setIfInBounds 11 true).getD 9 false = listed.getD 9 false := by rw [listed_get hlt, if_neg (by decide)]
      have eLx : (listed.setIfInBounds 11 true).getD 13 false = listed.getD 13 false := by rw [listed_get hlt, if_neg (by decide)]
      have eLs : (listed.setIfInBounds 11 true).getD 14 false = listed.getD 14 false := by rw [listed_get hlt, if_neg (by decide)]
      have keep : W6 w3 n own [99, 111, 109, 109, 101, 110, 116] val X γ ((listed.setIfInBounds 11 true).getD 2 false) ((listed.setIfInBounds 11 true).getD 4 false) ((listed.setIfInBounds 11 true).getD 7 false) ((listed.setIfInBounds 11 true).getD 8 false) ((listed.setIfInBounds 11 true).getD 9 false) ((listed.setIfInBounds 11 true).getD 13 false) ((listed.setIfInBounds 11 true).getD 14 false) w := by rw [eLa, eLb, eLc, eLd, eLe, eLx, eLs]; exact hW
      have e : a.eval (.tmp 37) = .tuple #[.agg (headC X.1), .int .i64 X.2] := (h.get ho hdep (i := 10) (d := 37) (by kernel_rfl) rfl)
      refine wp_run _ ?_ ⟨γ, fun _ _ => rfl, rfl, keep⟩
      generalize a.eval = ev at e ⊢
      simp [go_sem, execOp, hop, e, v6]
    · obtain ⟨o', ho', hop, hdst⟩ := last6_op12
      obtain rfl := same ho' rfl
      have eLa : (listed.setIfInBounds 12 true).getD 2 false = listed.getD 2 false := by rw [listed_get hlt, if_neg (by decide)]
      have eLb : (listed.setIfInBounds 12 true).getD 4 false = listed.getD 4 false := by rw [listed_get hlt, if_neg (by decide)]
      have eLc : (listed.setIfInBounds 12 true).getD 7 false = listed.getD 7 false := by rw [listed_get hlt, if_neg (by decide)]
      have eLd : (listed.setIfInBounds 12 true).getD 8 false = listed.getD 8 false := by rw [listed_get hlt, if_neg (by decide)]
      have eLe : (listed.setIfInBounds 12 true).getD 9 false = listed.getD 9 false := by rw [listed_get hlt, if_neg (by decide)]
      have eLx : (listed.setIfInBounds 12 true).getD 13 false = listed.getD 13 false := by rw [listed_get hlt, if_neg (by decide)]
      have eLs : (listed.setIfInBounds 12 true).getD 14 false = listed.getD 14 false := by rw [listed_get hlt, if_neg (by decide)]
      have keep : W6 w3 n own [99, 111, 109, 109, 101, 110, 116] val X γ ((listed.setIfInBounds 12 true).getD 2 false) ((listed.setIfInBounds 12 true).getD 4 false) ((listed.setIfInBounds 12 true).getD 7 false) ((listed.setIfInBounds 12 true).getD 8 false) ((listed.setIfInBounds 12 true).getD 9 false) ((listed.setIfInBounds 12 true).getD 13 false) ((listed.setIfInBounds 12 true).getD 14 false) w := by rw [eLa, eLb, eLc, eLd, eLe, eLx, eLs]; exact hW
      have e : a.eval (.tmp 37) = .tuple #[.agg (headC X.1), .int .i64 X.2] := (h.get ho hdep (i := 10) (d := 37) (by kernel_rfl) rfl)
      refine wp_run _ ?_ ⟨γ, fun _ _ => rfl, rfl, keep⟩
      generalize a.eval = ev at e ⊢
      simp [go_sem, execOp, hop, e, v6]
    · obtain ⟨o', ho', hop, hdst⟩ := last6_op13
      obtain rfl := same ho' rfl
      have eLa : (listed.setIfInBounds 13 true).getD 2 false = listed.getD 2 false := by rw [listed_get hlt, if_neg (by decide)]
      have eLb : (listed.setIfInBounds 13 true).getD 4 false = listed.getD 4 false := by rw [listed_get hlt, if_neg (by decide)]
      have eLc : (listed.setIfInBounds 13 true).getD 7 false = listed.getD 7 false := by rw [listed_get hlt, if_neg (by decide)]
      have eLd : (listed.setIfInBounds 13 true).getD 8 false = listed.getD 8 false := by rw [listed_get hlt, if_neg (by decide)]
      have eLe : (listed.setIfInBounds 13 true).getD 9 false = listed.getD 9 false := by rw [listed_get hlt, if_neg (by decide)]
      have eLx : (listed.setIfInBounds 13 true).getD 13 false = true := by rw [listed_get hlt, if_pos rfl]
      have eLs : (listed.setIfInBounds 13 true).getD 14 false = listed.getD 14 false := by rw [listed_get hlt, if_neg (by decide)]
      have q := al_head w
      have hr : (execOp a.eval o').run Tryd.prog w = .ok (.value (.pointer (some ⟨w.heap.size, 0, none⟩))) (w.alloc (.cells (headC zeroH) 25)) := by simp [execOp, hop, q, Result.andThen]
      have hba : Below w.heap.size w (w.alloc (.cells (headC zeroH) 25)) := (Below.refl _ w).alloc (Nat.le_refl _) _
      have hls : listed.getD 14 false = false := by
        cases hx : listed.getD 14 false with
        | false => rfl
        | true => have := (hW.cs hx).2; rw [hlf] at this; cases this
      unfold Oper.wp
      rw [hr, Oper.upon_value]
      refine ⟨{ γ with bx := w.heap.size }, fun i hi => v6_bx _ _ _ _ _ _ _ (hne i hi), rfl, ?_⟩
      rw [eLa, eLb, eLc, eLd, eLe, eLx, eLs]
      refine { bel := hW.bel.alloc hW.bel.size _, ra := ?_, rb := fun h1 h2 => own_below (hW.rb h1 h2) hba, rc := ?_, rd := fun h1 h2 => ?_, rx := ?_, cd := hW.cd, cc := ?_, ce := hW.ce, cs := ?_ }
      · exact fun h1 h2 => own_below (hW.ra h1 h2) hba
      · intro h1 h2
        obtain ⟨b, e1, e2, e3, e4⟩ := hW.rc h1 h2
        exact ⟨b, e1, e2.alloc _, e3, e4⟩
      · obtain ⟨p, c, e1, e2⟩ := hW.rd h1 h2
        exact ⟨p, c, e1, e2.below hba⟩
      · intro _
        rw [hls]
        exact ⟨hW.bel.size, Blk.new w _ _⟩
      · exact hW.cc
      · exact fun h1 => ⟨(hW.cs h1).1, rfl⟩
    · obtain ⟨o', ho', hop, hdst⟩ := last6_op14
      obtain rfl := same ho' rfl
      have eLa : (listed.setIfInBounds 14 true).getD 2 false = listed.getD 2 false := by rw [listed_get hlt, if_neg (by decide)]
      have eLb : (listed.setIfInBounds 14 true).getD 4 false = listed.getD 4 false := by rw [listed_get hlt, if_neg (by decide)]
      have eLc : (listed.setIfInBounds 14 true).getD 7 false = listed.getD 7 false := by rw [listed_get hlt, if_neg (by decide)]
      have eLd : (listed.setIfInBounds 14 true).getD 8 false = listed.getD 8 false := by rw [listed_get hlt, if_neg (by decide)]
      have eLe : (listed.setIfInBounds 14 true).getD 9 false = listed.getD 9 false := by rw [listed_get hlt, if_neg (by decide)]
      have eLx : (listed.setIfInBounds 14 true).getD 13 false = listed.getD 13 false := by rw [listed_get hlt, if_neg (by decide)]
      have eLs : (listed.setIfInBounds 14 true).getD 14 false = true := by rw [listed_get hlt, if_pos rfl]
      have e0 : a.eval (.tmp 14) = .pointer (some ⟨γ.bx, 0, none⟩) := (h.get ho hdep (i := 13) (d := 14) (by kernel_rfl) rfl)
      have e1 : a.eval (.tmp 48) = .agg (headC X.1) := (h.get ho hdep (i := 11) (d := 48) (by kernel_rfl) rfl)
      have lx : listed.getD 13 false = true := dep_listed ho hdep (by kernel_rfl)
      have le : listed.getD 9 false = true := dep_listed ho hdep (by kernel_rfl)
      have ld := hW.ce le
      have lb := hW.cd ld
      obtain ⟨hge, hb⟩ := hW.rx lx
      rw [hlf, if_neg (by decide)] at hb
      refine wp_storeH _ _ hop γ.bx e0 X.1 e1 hb (fun w' hb' hk => ⟨γ, fun _ _ => rfl, rfl, ?_⟩)
      rw [eLa, eLb, eLc, eLd, eLe, eLx, eLs]
      exact { bel := hW.bel.trans (hk.below hW.bel.size (fun k hk => by rw [show k = γ.bx from hk]; exact hge)), ra := fun _ hx => absurd lb (by rw [hx]; decide), rb := fun _ hx => absurd ld (by rw [hx]; decide), rc := fun _ hx => absurd ld (by rw [hx]; decide), rd := fun _ hx => absurd le (by rw [hx]; decide), rx := fun _ => ⟨hge, hb'⟩, cd := hW.cd, cc := hW.cc, ce := hW.ce, cs := fun _ => ⟨le, lx⟩ }
    · obtain ⟨o', ho', hop, hdst⟩ := last6_op15
      obtain rfl := same ho' rfl
      have eLa : (listed.setIfInBounds 15 true).getD 2 false = listed.getD 2 false := by rw [listed_get hlt, if_neg (by decide)]
      have eLb : (listed.setIfInBounds 15 true).getD 4 false = listed.getD 4 false := by rw [listed_get hlt, if_neg (by decide)]
      have eLc : (listed.setIfInBounds 15 true).getD 7 false = listed.getD 7 false := by rw [listed_get hlt, if_neg (by decide)]
      have eLd : (listed.setIfInBounds 15 true).getD 8 false = listed.getD 8 false := by rw [listed_get hlt, if_neg (by decide)]
      have eLe : (listed.setIfInBounds 15 true).getD 9 false = listed.getD 9 false := by rw [listed_get hlt, if_neg (by decide)]
      have eLx : (listed.setIfInBounds 15 true).getD 13 false = listed.getD 13 false := by rw [listed_get hlt, if_neg (by decide)]
      have eLs : (listed.setIfInBounds 15 true).getD 14 false = listed.getD 14 false := by rw [listed_get hlt, if_neg (by decide)]
      have keep : W6 w3 n own [99, 111, 109, 109, 101, 110, 116] val X γ ((listed.setIfInBounds 15 true).getD 2 false) ((listed.setIfInBounds 15 true).getD 4 false) ((listed.setIfInBounds 15 true).getD 7 false) ((listed.setIfInBounds 15 true).getD 8 false) ((listed.setIfInBounds 15 true).getD 9 false) ((listed.setIfInBounds 15 true).getD 13 false) ((listed.setIfInBounds 15 true).getD 14 false) w := by rw [eLa, eLb, eLc, eLd, eLe, eLx, eLs]; exact hW
      exact wp_move _ _ (Or.inr hop) (h.get ho hdep (i := 12) (d := 49) (by kernel_rfl) rfl) ⟨γ, fun _ _ => rfl, rfl, keep⟩
  · intro γ listed a w h hall
    have all : ∀ j, j < 16 → listed.getD j false = true := fun j hj => hall j (by rw [last6_size]; exact hj)
    have hW := h.wd
    obtain ⟨hge, hb⟩ := hW.rx (all 13 (by omega))
    rw [all 14 (by omega), if_pos rfl] at hb
    rw [done_putAllG 103 last6_apart hsz h hall, last6_size]
    simp only [putAll, last6_dst0, last6_dst1, last6_dst2, last6_dst3, last6_dst4, last6_dst5, last6_dst6, last6_dst7, last6_dst8, last6_dst9, last6_dst10, last6_dst11, last6_dst12, last6_dst13, last6_dst14, last6_dst15, put_none, v6]
    exact hQ γ w hW.bel hge hb
  · have hnn := no
    refine { bel := (Below.refl _ w3).drew, ra := fun hx => (by rw [no] at hx; cases hx), rb := fun hx => (by rw [no] at hx; cases hx), rc := fun hx => (by rw [no] at hx; cases hx), rd := fun hx => (by rw [no] at hx; cases hx), rx := fun hx => (by rw [no] at hx; cases hx), cd := fun hx => (by rw [no] at hx; cases hx), cc := fun hx => (by rw [no] at hx; cases hx), ce := fun hx => (by rw [no] at hx; cases hx), cs := fun hx => (by rw [no] at hx; cases hx) }
noncomputable def last8Ops : Array Oper := regionAt Tryd.f5 8
structure G8 where
  va : Value
  vb : Value
  vd : Value
  bx : Nat
def v8 (g : Nat) (hv : HeadV) (ow : Value) (hid : Value) (X : HeadV × Int) (γ : G8) : Nat → Value
  | 0 => .pointer (some ⟨g, 0, none⟩) | 1 => .agg (headC hv) | 2 => γ.va | 3 => ow | 4 => γ.vb | 5 => hid | 6 => γ.vd | 7 => headA X | 8 => headA X | 9 => .agg (headC X.1) | 10 => .int .i64 X.2 | 11 => .pointer (some ⟨γ.bx, 0, none⟩) | 13 => .int .i64 X.2 | _ => undef
theorem last8_size : last8Ops.size = 14 := rfl
theorem last8_apart : apartG last8Ops 103 = true := by kernel_rfl
theorem last8_dst0 : dstAt last8Ops 0 = some 58 := rfl
theorem last8_op0 : ∃ o, last8Ops[0]? = some o ∧ o.op = .move (.tmp 11) ∧ o.dst = some 58 := ⟨_, rfl, rfl, rfl⟩
theorem last8_dst1 : dstAt last8Ops 1 = some 59 := rfl
theorem last8_op1 : ∃ o, last8Ops[1]? = some o ∧ o.op = .load 25 (.tmp 5) ∧ o.dst = some 59 := ⟨_, rfl, rfl, rfl⟩
theorem last8_dst2 : dstAt last8Ops 2 = some 60 := rfl
theorem last8_op2 : ∃ o, last8Ops[2]? = some o ∧ o.op = .buildSlice 27 0 #[] ∧ o.dst = some 60 := ⟨_, rfl, rfl, rfl⟩
theorem last8_dst3 : dstAt last8Ops 3 = some 61 := rfl
theorem last8_op3 : ∃ o, last8Ops[3]? = some o ∧ o.op = .move (.tmp 2) ∧ o.dst = some 61 := ⟨_, rfl, rfl, rfl⟩
theorem last8_dst4 : dstAt last8Ops 4 = some 62 := rfl
theorem last8_op4 : ∃ o, last8Ops[4]? = some o ∧ o.op = .call { callee := .builtin .append, args := #[.tmp 60, .tmp 61], argTypes := #[27, 27] } ∧ o.dst = some 62 := ⟨_, rfl, rfl, rfl⟩
theorem last8_dst5 : dstAt last8Ops 5 = some 63 := rfl
theorem last8_op5 : ∃ o, last8Ops[5]? = some o ∧ o.op = .move (.tmp 16) ∧ o.dst = some 63 := ⟨_, rfl, rfl, rfl⟩
theorem last8_dst6 : dstAt last8Ops 6 = some 64 := rfl
theorem last8_op6 : ∃ o, last8Ops[6]? = some o ∧ o.op = .call { callee := .builtin .append, args := #[.tmp 62, .tmp 63], argTypes := #[27, 27] } ∧ o.dst = some 64 := ⟨_, rfl, rfl, rfl⟩
theorem last8_dst7 : dstAt last8Ops 7 = some 65 := rfl
theorem last8_op7 : ∃ o, last8Ops[7]? = some o ∧ o.op = .call { callee := .value (.func 10), args := #[.tmp 58, .tmp 59, .tmp 64], argTypes := #[28, 25, 27] } ∧ o.dst = some 65 := ⟨_, rfl, rfl, rfl⟩
theorem last8_dst8 : dstAt last8Ops 8 = some 57 := rfl
theorem last8_op8 : ∃ o, last8Ops[8]? = some o ∧ o.op = .move (.tmp 65) ∧ o.dst = some 57 := ⟨_, rfl, rfl, rfl⟩
theorem last8_dst9 : dstAt last8Ops 9 = some 66 := rfl
theorem last8_op9 : ∃ o, last8Ops[9]? = some o ∧ o.op = .extract (.tmp 57) 0 ∧ o.dst = some 66 := ⟨_, rfl, rfl, rfl⟩
theorem last8_dst10 : dstAt last8Ops 10 = some 67 := rfl
theorem last8_op10 : ∃ o, last8Ops[10]? = some o ∧ o.op = .extract (.tmp 57) 1 ∧ o.dst = some 67 := ⟨_, rfl, rfl, rfl⟩
theorem last8_dst11 : dstAt last8Ops 11 = some 17 := rfl
theorem last8_op11 : ∃ o, last8Ops[11]? = some o ∧ o.op = .alloc 25 ∧ o.dst = some 17 := ⟨_, rfl, rfl, rfl⟩
theorem last8_dst12 : dstAt last8Ops 12 = none := rfl
theorem last8_op12 : ∃ o, last8Ops[12]? = some o ∧ o.op = .store 25 (.tmp 17) (.tmp 66) ∧ o.dst = none := ⟨_, rfl, rfl, rfl⟩
theorem last8_dst13 : dstAt last8Ops 13 = some 18 := rfl
theorem last8_op13 : ∃ o, last8Ops[13]? = some o ∧ o.op = .assign (.tmp 67) ∧ o.dst = some 18 := ⟨_, rfl, rfl, rfl⟩
theorem v8_va (g : Nat) (hv : HeadV) (ow : Value) (hid : Value) (X : HeadV × Int) (γ : G8) (x : Value) {i : Nat} (h : i ≠ 2) : v8 g hv ow hid X { γ with va := x } i = v8 g hv ow hid X γ i := by
  unfold v8
  split <;> first | rfl | exact absurd rfl h
theorem v8_vb (g : Nat) (hv : HeadV) (ow : Value) (hid : Value) (X : HeadV × Int) (γ : G8) (x : Value) {i : Nat} (h : i ≠ 4) : v8 g hv ow hid X { γ with vb := x } i = v8 g hv ow hid X γ i := by
  unfold v8
  split <;> first | rfl | exact absurd rfl h
theorem v8_vd (g : Nat) (hv : HeadV) (ow : Value) (hid : Value) (X : HeadV × Int) (γ : G8) (x : Value) {i : Nat} (h : i ≠ 6) : v8 g hv ow hid X { γ with vd := x } i = v8 g hv ow hid X γ i := by
  unfold v8
  split <;> first | rfl | exact absurd rfl h
theorem v8_bx (g : Nat) (hv : HeadV) (ow : Value) (hid : Value) (X : HeadV × Int) (γ : G8) (x : Nat) {i : Nat} (h : i ≠ 11) : v8 g hv ow hid X { γ with bx := x } i = v8 g hv ow hid X γ i := by
  unfold v8
  split <;> first | rfl | exact absurd rfl h
/-- what holds throughout -/
structure W8 (w3 : World) (n : Nat) (own : RecL) (hid : RecL) (X : HeadV × Int) (γ : G8) (La Lb Ld Le Lx Ls : Bool) (w : World) : Prop where
  bel : Below w3.heap.size w3 w
  ra : La = true → Lb = false → w.ownsRow w3.heap.size 43 2 γ.va 0 []
  rb : Lb = true → Ld = false → w.ownsRow w3.heap.size 43 2 γ.vb n (flatR own)
  rd : Ld = true → Le = false → ∃ p c, γ.vd = .slice p (n + 6) c ∧ RecsAt w p (n + 6) (own ++ hid)
  rx : Lx = true → w3.heap.size ≤ γ.bx ∧ Blk w γ.bx 25 (headC (if Ls = true then X.1 else zeroH))
  cd : Ld = true → Lb = true
  ce : Le = true → Ld = true
  cs : Ls = true → Le = true ∧ Lx = true
set_option maxHeartbeats 4000000 in
theorem last8_region {Q' : Exit → Act → World → Prop} {a0 : Act} {w3 : World} (g gb : Nat) (hv : HeadV) (p1 : Option Addr) (n c1 : Nat) (own : RecL) (p16 : Option Addr) (c16 : Nat) (hid : RecL) (X : HeadV × Int)
    (hsz : 103 ≤ a0.tmps.size) (h11 : a0.eval (.tmp 11) = .pointer (some ⟨g, 0, none⟩)) (h5 : a0.eval (.tmp 5) = .pointer (some ⟨gb, 0, none⟩)) (hbox : Blk w3 gb 25 (headC hv)) (h2 : a0.eval (.tmp 2) = .slice p1 n c1) (hown : RecsAt w3 p1 n own) (hn : n ≤ 100)
    (h16 : a0.eval (.tmp 16) = .slice p16 6 c16) (hhid : RecsAt w3 p16 6 hid)
    (hcall : ∀ w p c, Below w3.heap.size w3 w → RecsAt w p (n + 6) (own ++ hid) → Calls Tryd.prog 10 #[.pointer (some ⟨g, 0, none⟩), .agg (headC hv), .slice p (n + 6) c] w fun e w' => e = .returned (headA X) ∧ Below w.heap.size w w')
    (hQ : ∀ (γ : G8) w', Below w3.heap.size w3 w' → w3.heap.size ≤ γ.bx → Blk w' γ.bx 25 (headC X.1) → Q' .normal (((((((((((((a0.put (some 58) (.pointer (some ⟨g, 0, none⟩))).put (some 59) (.agg (headC hv))).put (some 60) (γ.va)).put (some 61) (.slice p1 n c1)).put (some 62) (γ.vb)).put (some 63) (.slice p16 6 c16)).put (some 64) (γ.vd)).put (some 65) (headA X)).put (some 57) (headA X)).put (some 66) (.agg (headC X.1))).put (some 67) (.int .i64 X.2)).put (some 17) (.pointer (some ⟨γ.bx, 0, none⟩))).put (some 18) (.int .i64 X.2)) w') :
    wpAny Tryd.prog .any last8Ops Q' last8Ops.size (Array.replicate last8Ops.size false) a0 w3.drew := by
  have no : ∀ j, (Array.replicate last8Ops.size false).getD j false = false := fun j => by
    rw [Array.getD_eq_getD_getElem?, Array.getElem?_replicate]
    split <;> rfl
  refine wpAny_ghost (Γ := G8) (v8 g hv (.slice p1 n c1) (.slice p16 6 c16) X) { va := undef, vb := undef, vd := undef, bx := 0 } a0 (fun γ listed w => W8 w3 n own hid X γ (listed.getD 2 false) (listed.getD 4 false) (listed.getD 6 false) (listed.getD 7 false) (listed.getD 11 false) (listed.getD 12 false) w) 103 last8_apart hsz ?_ ?_ ?_
  · intro γ listed a w j o h ho hun hdep
    have hlt := lt_of_unlisted hun
    have hW := h.wd
    have hj : j < 14 := by
      have := (Array.getElem?_eq_some_iff.1 ho).1
      rwa [last8_size] at this
    have same : ∀ {j' : Nat} {o' : Oper}, last8Ops[j']? = some o' → j = j' → o' = o := fun {j' o'} h' e => by subst e; exact Option.some.inj (h'.symm.trans ho)
    have hlf := getD_flip hun
    have hne : ∀ i, listed.getD i false = true → i ≠ j := fun i hi e => by rw [e, hlf] at hi; cases hi
    rcases (show j = 0 ∨ j = 1 ∨ j = 2 ∨ j = 3 ∨ j = 4 ∨ j = 5 ∨ j = 6 ∨ j = 7 ∨ j = 8 ∨ j = 9 ∨ j = 10 ∨ j = 11 ∨ j = 12 ∨ j = 13 by omega) with rfl | rfl | rfl | rfl | rfl | rfl | rfl | rfl | rfl | rfl | rfl | rfl | rfl | rfl
    · obtain ⟨o', ho', hop, hdst⟩ := last8_op0
      obtain rfl := same ho' rfl
      have eLa : (listed.setIfInBounds 0 true).getD 2 false = listed.getD 2 false := by rw [listed_get hlt, if_neg (by decide)]
      have eLb : (listed.setIfInBounds 0 true).getD 4 false = listed.getD 4 false := by rw [listed_get hlt, if_neg (by decide)]
      have eLd : (listed.setIfInBounds 0 true).getD 6 false = listed.getD 6 false := by rw [listed_get hlt, if_neg (by decide)]
      have eLe : (listed.setIfInBounds 0 true).getD 7 false = listed.getD 7 false := by rw [listed_get hlt, if_neg (by decide)]
      have eLx : (listed.setIfInBounds 0 true).getD 11 false = listed.getD 11 false := by rw [listed_get hlt, if_neg (by decide)]
      have eLs : (listed.setIfInBounds 0 true).getD 12 false = listed.getD 12 false := by rw [listed_get hlt, if_neg (by decide)]
      have keep : W8 w3 n own hid X γ ((listed.setIfInBounds 0 true).getD 2 false) ((listed.setIfInBounds 0 true).getD 4 false) ((listed.setIfInBounds 0 true).getD 6 false) ((listed.setIfInBounds 0 true).getD 7 false) ((listed.setIfInBounds 0 true).getD 11 false) ((listed.setIfInBounds 0 true).getD 12 false) w := by rw [eLa, eLb, eLd, eLe, eLx, eLs]; exact hW
      exact wp_move _ _ (Or.inl hop) ((h.old (t := 11) (by kernel_rfl)).trans h11) ⟨γ, fun _ _ => rfl, rfl, keep⟩
    · obtain ⟨o', ho', hop, hdst⟩ := last8_op1
      obtain rfl := same ho' rfl
      have eLa : (listed.setIfInBounds 1 true).getD 2 false = listed.getD 2 false := by rw [listed_get hlt, if_neg (by decide)]
      have eLb : (listed.setIfInBounds 1 true).getD 4 false = listed.getD 4 false := by rw [listed_get hlt, if_neg (by decide)]
      have eLd : (listed.setIfInBounds 1 true).getD 6 false = listed.getD 6 false := by rw [listed_get hlt, if_neg (by decide)]
      have eLe : (listed.setIfInBounds 1 true).getD 7 false = listed.getD 7 false := by rw [listed_get hlt, if_neg (by decide)]
      have eLx : (listed.setIfInBounds 1 true).getD 11 false = listed.getD 11 false := by rw [listed_get hlt, if_neg (by decide)]
      have eLs : (listed.setIfInBounds 1 true).getD 12 false = listed.getD 12 false := by rw [listed_get hlt, if_neg (by decide)]
      have keep : W8 w3 n own hid X γ ((listed.setIfInBounds 1 true).getD 2 false) ((listed.setIfInBounds 1 true).getD 4 false) ((listed.setIfInBounds 1 true).getD 6 false) ((listed.setIfInBounds 1 true).getD 7 false) ((listed.setIfInBounds 1 true).getD 11 false) ((listed.setIfInBounds 1 true).getD 12 false) w := by rw [eLa, eLb, eLd, eLe, eLx, eLs]; exact hW
      have e : a.eval (.tmp 5) = .pointer (some ⟨gb, 0, none⟩) := (h.old (t := 5) (by kernel_rfl)).trans h5
      refine wp_run _ ?_ ⟨γ, fun _ _ => rfl, rfl, keep⟩
      have q := ld_head w gb hv (hbox.below hW.bel hbox.lt)
      simp [execOp, hop, e, q, Result.andThen, v8]
    · obtain ⟨o', ho', hop, hdst⟩ := last8_op2
      obtain rfl := same ho' rfl
      have eLa : (listed.setIfInBounds 2 true).getD 2 false = true := by rw [listed_get hlt, if_pos rfl]
      have eLb : (listed.setIfInBounds 2 true).getD 4 false = listed.getD 4 false := by rw [listed_get hlt, if_neg (by decide)]
      have eLd : (listed.setIfInBounds 2 true).getD 6 false = listed.getD 6 false := by rw [listed_get hlt, if_neg (by decide)]
      have eLe : (listed.setIfInBounds 2 true).getD 7 false = listed.getD 7 false := by rw [listed_get hlt, if_neg (by decide)]
      have eLx : (listed.setIfInBounds 2 true).getD 11 false = listed.getD 11 false := by rw [listed_get hlt, if_neg (by decide)]
      have eLs : (listed.setIfInBounds 2 true).getD 12 false = listed.getD 12 false := by rw [listed_get hlt, if_neg (by decide)]
      have q := bs_none w
      have hr : (execOp a.eval o').run Tryd.prog w = .ok (.value (.slice (some ⟨w.heap.size, 0, none⟩) 0 0)) (w.alloc (.cells #[] 43)) := by simp [execOp, hop, q, Result.andThen]
      have hba : Below w.heap.size w (w.alloc (.cells #[] 43)) := (Below.refl _ w).alloc (Nat.le_refl _) _
      unfold Oper.wp
      rw [hr, Oper.upon_value]
      refine ⟨{ γ with va := .slice (some ⟨w.heap.size, 0, none⟩) 0 0 }, fun i hi => v8_va _ _ _ _ _ _ _ (hne i hi), rfl, ?_⟩
      rw [eLa, eLb, eLd, eLe, eLx, eLs]
      refine { bel := hW.bel.alloc hW.bel.size _, ra := ?_, rb := fun h1 h2 => own_below (hW.rb h1 h2) hba, rd := fun h1 h2 => ?_, rx := ?_, cd := hW.cd, ce := hW.ce, cs := ?_ }
      · exact fun _ _ => World.ownsRow_made w #[] 0 hW.bel.size (by decide) rfl
      · obtain ⟨p, c, e1, e2⟩ := hW.rd h1 h2
        exact ⟨p, c, e1, e2.below hba⟩
      · intro h1
        obtain ⟨e1, e2⟩ := hW.rx h1
        exact ⟨e1, e2.alloc _⟩
      · exact hW.cs
    · obtain ⟨o', ho', hop, hdst⟩ := last8_op3
      obtain rfl := same ho' rfl
      have eLa : (listed.setIfInBounds 3 true).getD 2 false = listed.getD 2 false := by rw [listed_get hlt, if_neg (by decide)]
      have eLb : (listed.setIfInBounds 3 true).getD 4 false = listed.getD 4 false := by rw [listed_get hlt, if_neg (by decide)]
      have eLd : (listed.setIfInBounds 3 true).getD 6 false = listed.getD 6 false := by rw [listed_get hlt, if_neg (by decide)]
      have eLe : (listed.setIfInBounds 3 true).getD 7 false = listed.getD 7 false := by rw [listed_get hlt, if_neg (by decide)]
      have eLx : (listed.setIfInBounds 3 true).getD 11 false = listed.getD 11 false := by rw [listed_get hlt, if_neg (by decide)]
      have eLs : (listed.setIfInBounds 3 true).getD 12 false = listed.getD 12 false := by rw [listed_get hlt, if_neg (by decide)]
      have keep : W8 w3 n own hid X γ ((listed.setIfInBounds 3 true).getD 2 false) ((listed.setIfInBounds 3 true).getD 4 false) ((listed.setIfInBounds 3 true).getD 6 false) ((listed.setIfInBounds 3 true).getD 7 false) ((listed.setIfInBounds 3 true).getD 11 false) ((listed.setIfInBounds 3 true).getD 12 false) w := by rw [eLa, eLb, eLd, eLe, eLx, eLs]; exact hW
      exact wp_move _ _ (Or.inl hop) ((h.old (t := 2) (by kernel_rfl)).trans h2) ⟨γ, fun _ _ => rfl, rfl, keep⟩
    · obtain ⟨o', ho', hop, hdst⟩ := last8_op4
      obtain rfl := same ho' rfl
      have eLa : (listed.setIfInBounds 4 true).getD 2 false = listed.getD 2 false := by rw [listed_get hlt, if_neg (by decide)]
      have eLb : (listed.setIfInBounds 4 true).getD 4 false = true := by rw [listed_get hlt, if_pos rfl]
      have eLd : (listed.setIfInBounds 4 true).getD 6 false = listed.getD 6 false := by rw [listed_get hlt, if_neg (by decide)]
      have eLe : (listed.setIfInBounds 4 true).getD 7 false = listed.getD 7 false := by rw [listed_get hlt, if_neg (by decide)]
      have eLx : (listed.setIfInBounds 4 true).getD 11 false = listed.getD 11 false := by rw [listed_get hlt, if_neg (by decide)]
      have eLs : (listed.setIfInBounds 4 true).getD 12 false = listed.getD 12 false := by rw [listed_get hlt, if_neg (by decide)]
      have e0 : a.eval (.tmp 60) = γ.va := (h.get ho hdep (i := 2) (d := 60) (by kernel_rfl) rfl)
      have e1 : a.eval (.tmp 61) = .slice p1 n c1 := (h.get ho hdep (i := 3) (d := 61) (by kernel_rfl) rfl)
      have la : listed.getD 2 false = true := dep_listed ho hdep (by kernel_rfl)
      have hra := hW.ra la hlf
      refine wp_appendR _ _ hop _ e0 p1 n c1 e1 w3.heap.size 0 [] hra own (hown.below hW.bel) (by omega) hW.bel.size (fun v' w' h1 h2 => ⟨{ γ with vb := v' }, fun i hi => v8_vb _ _ _ _ _ _ _ (hne i hi), rfl, ?_⟩)
      rw [eLa, eLb, eLd, eLe, eLx, eLs]
      refine { bel := below_own hW.bel hra (Nat.le_refl _) h2, ra := fun _ hx => (by cases hx), rb := fun _ _ => (by simpa using h1), rd := fun hx _ => absurd (hW.cd hx) (by rw [hlf]; decide), rx := ?_, cd := fun _ => rfl, ce := hW.ce, cs := hW.cs }
      · intro h3
        obtain ⟨e1, e2⟩ := hW.rx h3
        exact ⟨e1, blk_grown e2 h2 (own_blk_ne (cs := []) hra e2)⟩
    · obtain ⟨o', ho', hop, hdst⟩ := last8_op5
      obtain rfl := same ho' rfl
      have eLa : (listed.setIfInBounds 5 true).getD 2 false = listed.getD 2 false := by rw [listed_get hlt, if_neg (by decide)]
      have eLb : (listed.setIfInBounds 5 true).getD 4 false = listed.getD 4 false := by rw [listed_get hlt, if_neg (by decide)]
      have eLd : (listed.setIfInBounds 5 true).getD 6 false = listed.getD 6 false := by rw [listed_get hlt, if_neg (by decide)]
      have eLe : (listed.setIfInBounds 5 true).getD 7 false = listed.getD 7 false := by rw [listed_get hlt, if_neg (by decide)]
      have eLx : (listed.setIfInBounds 5 true).getD 11 false = listed.getD 11 false := by rw [listed_get hlt, if_neg (by decide)]
      have eLs : (listed.setIfInBounds 5 true).getD 12 false = listed.getD 12 false := by rw [listed_get hlt, if_neg (by decide)]
      have keep : W8 w3 n own hid X γ ((listed.setIfInBounds 5 true).getD 2 false) ((listed.setIfInBounds 5 true).getD 4 false) ((listed.setIfInBounds 5 true).getD 6 false) ((listed.setIfInBounds 5 true).getD 7 false) ((listed.setIfInBounds 5 true).getD 11 false) ((listed.setIfInBounds 5 true).getD 12 false) w := by rw [eLa, eLb, eLd, eLe, eLx, eLs]; exact hW
      exact wp_move _ _ (Or.inl hop) ((h.old (t := 16) (by kernel_rfl)).trans h16) ⟨γ, fun _ _ => rfl, rfl, keep⟩
    · obtain ⟨o', ho', hop, hdst⟩ := last8_op6
      obtain rfl := same ho' rfl
      have eLa : (listed.setIfInBounds 6 true).getD 2 false = listed.getD 2 false := by rw [listed_get hlt, if_neg (by decide)]
      have eLb : (listed.setIfInBounds 6 true).getD 4 false = listed.getD 4 false := by rw [listed_get hlt, if_neg (by decide)]
      have eLd : (listed.setIfInBounds 6 true).getD 6 false = true := by rw [listed_get hlt, if_pos rfl]
      have eLe : (listed.setIfInBounds 6 true).getD 7 false = listed.getD 7 false := by rw [listed_get hlt, if_neg (by decide)]
      have eLx : (listed.setIfInBounds 6 true).getD 11 false = listed.getD 11 false := by rw [listed_get hlt, if_neg (by decide)]
      have eLs : (listed.setIfInBounds 6 true).getD 12 false = listed.getD 12 false := by rw [listed_get hlt, if_neg (by decide)]
      have e0 : a.eval (.tmp 62) = γ.vb := (h.get ho hdep (i := 4) (d := 62) (by kernel_rfl) rfl)
      have lb : listed.getD 4 false = true := dep_listed ho hdep (by kernel_rfl)
      have hrb := hW.rb lb hlf
      have e1 : a.eval (.tmp 63) = .slice p16 6 c16 := (h.get ho hdep (i := 5) (d := 63) (by kernel_rfl) rfl)
      refine wp_appendR _ _ hop _ e0 p16 6 c16 e1 w3.heap.size n own hrb hid (hhid.below hW.bel) (by omega) hW.bel.size (fun v' w' h1 h2 => ⟨{ γ with vd := v' }, fun i hi => v8_vd _ _ _ _ _ _ _ (hne i hi), rfl, ?_⟩)
      rw [eLa, eLb, eLd, eLe, eLx, eLs]
      refine { bel := below_own hW.bel hrb (Nat.le_refl _) h2, ra := fun _ hx => absurd lb (by rw [hx]; decide), rb := fun _ hx => (by cases hx), rd := fun _ _ => ?_, rx := ?_, cd := fun _ => lb, ce := fun _ => rfl, cs := hW.cs }
      · have hlen : (own ++ hid).length = n + 6 := by rw [List.length_append, hown.1]; rw [hhid.1]
        rw [← hlen] at h1
        obtain ⟨p, c, hv', _, _, hr⟩ := recs_own h1
        rw [hlen] at hv' hr
        exact ⟨p, c, hv', hr⟩
      · intro h3
        obtain ⟨e1, e2⟩ := hW.rx h3
        exact ⟨e1, blk_grown e2 h2 (own_blk_ne (cs := []) hrb e2)⟩
    · obtain ⟨o', ho', hop, hdst⟩ := last8_op7
      obtain rfl := same ho' rfl
      have eLa : (listed.setIfInBounds 7 true).getD 2 false = listed.getD 2 false := by rw [listed_get hlt, if_neg (by decide)]
      have eLb : (listed.setIfInBounds 7 true).getD 4 false = listed.getD 4 false := by rw [listed_get hlt, if_neg (by decide)]
      have eLd : (listed.setIfInBounds 7 true).getD 6 false = listed.getD 6 false := by rw [listed_get hlt, if_neg (by decide)]
      have eLe : (listed.setIfInBounds 7 true).getD 7 false = true := by rw [listed_get hlt, if_pos rfl]
      have eLx : (listed.setIfInBounds 7 true).getD 11 false = listed.getD 11 false := by rw [listed_get hlt, if_neg (by decide)]
      have eLs : (listed.setIfInBounds 7 true).getD 12 false = listed.getD 12 false := by rw [listed_get hlt, if_neg (by decide)]
      have e0 : a.eval (.tmp 58) = .pointer (some ⟨g, 0, none⟩) := (h.get ho hdep (i := 0) (d := 58) (by kernel_rfl) rfl)
      have e1 : a.eval (.tmp 59) = .agg (headC hv) := (h.get ho hdep (i := 1) (d := 59) (by kernel_rfl) rfl)
      have e2 : a.eval (.tmp 64) = γ.vd := (h.get ho hdep (i := 6) (d := 64) (by kernel_rfl) rfl)
      have ld : listed.getD 6 false = true := dep_listed ho hdep (by kernel_rfl)
      obtain ⟨p, c, hvd, hr⟩ := hW.rd ld hlf
      rw [hvd] at e2
      refine wp_call _ _ _ hop #[.pointer (some ⟨g, 0, none⟩), .agg (headC hv), .slice p (n + 6) c] (by simp [e0, e1, e2]) (enters_of Tryd.func10 (by kernel_rfl) rfl) (headA X) (fun w' => Below w.heap.size w w') (hcall w p c hW.bel hr) (fun w' hb => ⟨γ, fun _ _ => rfl, rfl, ?_⟩)
      rw [eLa, eLb, eLd, eLe, eLx, eLs]
      refine { bel := hW.bel.trans (hb.mono hW.bel.size), ra := fun h1 h2 => own_below (hW.ra h1 h2) hb, rb := fun h1 h2 => own_below (hW.rb h1 h2) hb, rd := fun _ hx => (by cases hx), rx := ?_, cd := hW.cd, ce := fun _ => ld, cs := fun h1 => ⟨rfl, (hW.cs h1).2⟩ }
      · intro h3
        obtain ⟨e1, e2⟩ := hW.rx h3
        exact ⟨e1, e2.below hb e2.lt⟩
    · obtain ⟨o', ho', hop, hdst⟩ := last8_op8
      obtain rfl := same ho' rfl
      have eLa : (listed.setIfInBounds 8 true).getD 2 false = listed.getD 2 false := by rw [listed_get hlt, if_neg (by decide)]
      have eLb : (listed.setIfInBounds 8 true).getD 4 false = listed.getD 4 false := by rw [listed_get hlt, if_neg (by decide)]
      have eLd : (listed.setIfInBounds 8 true).getD 6 false = listed.getD 6 false := by rw [listed_get hlt, if_neg (by decide)]
      have eLe : (listed.setIfInBounds 8 true).getD 7 false = listed.getD 7 false := by rw [listed_get hlt, if_neg (by decide)]
      have eLx : (listed.setIfInBounds 8 true).getD 11 false = listed.getD 11 false := by rw [listed_get hlt, if_neg (by decide)]
      have eLs : (listed.setIfInBounds 8 true).getD 12 false = listed.getD 12 false := by rw [listed_get hlt, if_neg (by decide)]
      have keep : W8 w3 n own hid X γ ((listed.setIfInBounds 8 true).getD 2 false) ((listed.setIfInBounds 8 true).getD 4 false) ((listed.setIfInBounds 8 true).getD 6 false) ((listed.setIfInBounds 8 true).getD 7 false) ((listed.setIfInBounds 8 true).getD 11 false) ((listed.setIfInBounds 8 true).getD 12 false) w := by rw [eLa, eLb, eLd, eLe, eLx, eLs]; exact hW
      exact wp_move _ _ (Or.inl hop) (h.get ho hdep (i := 7) (d := 65) (by kernel_rfl) rfl) ⟨γ, fun _ _ => rfl, rfl, keep⟩
    · obtain ⟨o', ho', hop, hdst⟩ := last8_op9
      obtain rfl := same ho' rfl
      have eLa : (listed.setIfInBounds 9 true).getD 2 false = listed.getD 2 false := by rw [listed_get hlt, if_neg (by decide)]
      have eLb : (listed.setIfInBounds 9 true).getD 4 false = listed.getD 4 false := by rw [listed_get hlt, if_neg (by decide)]
      have eLd : (listed.setIfInBounds 9 true).getD 6 false = listed.getD 6 false := by rw [listed_get hlt, if_neg (by decide)]
      have eLe : (listed.setIfInBounds 9 true).getD 7 false = listed.getD 7 false := by rw [listed_get hlt, if_neg (by decide)]
      have eLx : (listed.setIfInBounds 9 true).getD 11 false = listed.getD 11 false := by rw [listed_get hlt, if_neg (by decide)]
      have eLs : (listed.setIfInBounds 9 true).getD 12 false = listed.getD 12 false := by rw [listed_get hlt, if_neg (by decide)]
      have keep : W8 w3 n own hid X γ ((listed.setIfInBounds 9 true).getD 2 false) ((listed.setIfInBounds 9 true).getD 4 false) ((listed.setIfInBounds 9 true).getD 6 false) ((listed.setIfInBounds 9 true).getD 7 false) ((listed.setIfInBounds 9 true).getD 11 false) ((listed.setIfInBounds 9 true).getD 12 false) w := by rw [eLa, eLb, eLd, eLe, eLx, eLs]; exact hW
      have e : a.eval (.tmp 57) = .tuple #[.agg (headC X.1), .int .i64 X.2] := (h.get ho hdep (i := 8) (d := 57) (by kernel_rfl) rfl)
      refine wp_run _ ?_ ⟨γ, fun _ _ => rfl, rfl, keep⟩
      generalize a.eval = ev at e ⊢
      simp [go_sem, execOp, hop, e, v8]
    · obtain ⟨o', ho', hop, hdst⟩ := last8_op10
      obtain rfl := same ho' rfl
      have eLa : (listed.setIfInBounds 10 true).getD 2 false = listed.getD 2 false := by rw [listed_get hlt, if_neg (by decide)]
      have eLb : (listed.setIfInBounds 10 true).getD 4 false = listed.getD 4 false := by rw [listed_get hlt, if_neg (by decide)]
      have eLd : (listed.setIfInBounds 10 true).getD 6 false = listed.getD 6 false := by rw [listed_get hlt, if_neg (by decide)]
      have eLe : (listed.setIfInBounds 10 true).getD 7 false = listed.getD 7 false := by rw [listed_get hlt, if_neg (by decide)]
      have eLx : (listed.setIfInBounds 10 true).getD 11 false = listed.getD 11 false := by rw [listed_get hlt, if_neg (by decide)]
      have eLs : (listed.setIfInBounds 10 true).getD 12 false = listed.getD 12 false := by rw [listed_get hlt, if_neg (by decide)]
      have keep : W8 w3 n own hid X γ ((listed.setIfInBounds 10 true).getD 2 false) ((listed.setIfInBounds 10 true).getD 4 false) ((listed.setIfInBounds 10 true).getD 6 false) ((listed.setIfInBounds 10 true).getD 7 false) ((listed.setIfInBounds 10 true).getD 11 false) ((listed.setIfInBounds 10 true).getD 12 false) w := by rw [eLa, eLb, eLd, eLe, eLx, eLs]; exact hW
      have e : a.eval (.tmp 57) = .tuple #[.agg (headC X.1), .int .i64 X.2] := (h.get ho hdep (i := 8) (d := 57) (by kernel_rfl) rfl)
      refine wp_run _ ?_ ⟨γ, fun _ _ => rfl, rfl, keep⟩
      generalize a.eval = ev at e ⊢
      simp [go_sem, execOp, hop, e, v8]
    · obtain ⟨o', ho', hop, hdst⟩ := last8_op11
      obtain rfl := same ho' rfl
      have eLa : (listed.setIfInBounds 11 true).getD 2 false = listed.getD 2 false := by rw [listed_get hlt, if_neg (by decide)]
      have eLb : (listed.setIfInBounds 11 true).getD 4 false = listed.getD 4 false := by rw [listed_get hlt, if_neg (by decide)]
      have eLd : (listed.setIfInBounds 11 true).getD 6 false = listed.getD 6 false := by rw [listed_get hlt, if_neg (by decide)]
      have eLe : (listed.setIfInBounds 11 true).getD 7 false = listed.getD 7 false := by rw [listed_get hlt, if_neg (by decide)]
      have eLx : (listed.setIfInBounds 11 true).getD 11 false = true := by rw [listed_get hlt, if_pos rfl]
      have eLs : (listed.setIfInBounds 11 true).getD 12 false = listed.getD 12 false := by rw [listed_get hlt, if_neg (by decide)]
      have q := al_head w
      have hr : (execOp a.eval o').run Tryd.prog w = .ok (.value (.pointer (some ⟨w.heap.size, 0, none⟩))) (w.alloc (.cells (headC zeroH) 25)) := by simp [execOp, hop, q, Result.andThen]
      have hba : Below w.heap.size w (w.alloc (.cells (headC zeroH) 25)) := (Below.refl _ w).alloc (Nat.le_refl _) _
      have hls : listed.getD 12 false = false := by
        cases hx : listed.getD 12 false with
        | false => rfl
        | true => have := (hW.cs hx).2; rw [hlf] at this; cases this
      unfold Oper.wp
      rw [hr, Oper.upon_value]
      refine ⟨{ γ with bx := w.heap.size }, fun i hi => v8_bx _ _ _ _ _ _ _ (hne i hi), rfl, ?_⟩
      rw [eLa, eLb, eLd, eLe, eLx, eLs]
      refine { bel := hW.bel.alloc hW.bel.size _, ra := ?_, rb := fun h1 h2 => own_below (hW.rb h1 h2) hba, rd := fun h1 h2 => ?_, rx := ?_, cd := hW.cd, ce := hW.ce, cs := ?_ }
      · exact fun h1 h2 => own_below (hW.ra h1 h2) hba
      · obtain ⟨p, c, e1, e2⟩ := hW.rd h1 h2
        exact ⟨p, c, e1, e2.below hba⟩
      · intro _
        rw [hls]
        exact ⟨hW.bel.size, Blk.new w _ _⟩
      · exact fun h1 => ⟨(hW.cs h1).1, rfl⟩
    · obtain ⟨o', ho', hop, hdst⟩ := last8_op12
      obtain rfl := same ho' rfl
      have eLa : (listed.setIfInBounds 12 true).getD 2 false = listed.getD 2 false := by rw [listed_get hlt, if_neg (by decide)]
      have eLb : (listed.setIfInBounds 12 true).getD 4 false = listed.getD 4 false := by rw [listed_get hlt, if_neg (by decide)]
      have eLd : (listed.setIfInBounds 12 true).getD 6 false = listed.getD 6 false := by rw [listed_get hlt, if_neg (by decide)]
      have eLe : (listed.setIfInBounds 12 true).getD 7 false = listed.getD 7 false := by rw [listed_get hlt, if_neg (by decide)]
      have eLx : (listed.setIfInBounds 12 true).getD 11 false = listed.getD 11 false := by rw [listed_get hlt, if_neg (by decide)]
      have eLs : (listed.setIfInBounds 12 true).getD 12 false = true := by rw [listed_get hlt, if_pos rfl]
      have e0 : a.eval (.tmp 17) = .pointer (some ⟨γ.bx, 0, none⟩) := (h.get ho hdep (i := 11) (d := 17) (by kernel_rfl) rfl)
      have e1 : a.eval (.tmp 66) = .agg (headC X.1) := (h.get ho hdep (i := 9) (d := 66) (by kernel_rfl) rfl)
      have lx : listed.getD 11 false = true := dep_listed ho hdep (by kernel_rfl)
      have le : listed.getD 7 false = true := dep_listed ho hdep (by kernel_rfl)
      have ld := hW.ce le
      have lb := hW.cd ld
      obtain ⟨hge, hb⟩ := hW.rx lx
      rw [hlf, if_neg (by decide)] at hb
      refine wp_storeH _ _ hop γ.bx e0 X.1 e1 hb (fun w' hb' hk => ⟨γ, fun _ _ => rfl, rfl, ?_⟩)
      rw [eLa, eLb, eLd, eLe, eLx, eLs]
      exact { bel := hW.bel.trans (hk.below hW.bel.size (fun k hk => by rw [show k = γ.bx from hk]; exact hge)), ra := fun _ hx => absurd lb (by rw [hx]; decide), rb := fun _ hx => absurd ld (by rw [hx]; decide), rd := fun _ hx => absurd le (by rw [hx]; decide), rx := fun _ => ⟨hge, hb'⟩, cd := hW.cd, ce := hW.ce, cs := fun _ => ⟨le, lx⟩ }
    · obtain ⟨o', ho', hop, hdst⟩ := last8_op13
      obtain rfl := same ho' rfl
      have eLa : (listed.setIfInBounds 13 true).getD 2 false = listed.getD 2 false := by rw [listed_get hlt, if_neg (by decide)]
      have eLb : (listed.setIfInBounds 13 true).getD 4 false = listed.getD 4 false := by rw [listed_get hlt, if_neg (by decide)]
      have eLd : (listed.setIfInBounds 13 true).getD 6 false = listed.getD 6 false := by rw [listed_get hlt, if_neg (by decide)]
      have eLe : (listed.setIfInBounds 13 true).getD 7 false = listed.getD 7 false := by rw [listed_get hlt, if_neg (by decide)]
      have eLx : (listed.setIfInBounds 13 true).getD 11 false = listed.getD 11 false := by rw [listed_get hlt, if_neg (by decide)]
      have eLs : (listed.setIfInBounds 13 true).getD 12 false = listed.getD 12 false := by rw [listed_get hlt, if_neg (by decide)]
      have keep : W8 w3 n own hid X γ ((listed.setIfInBounds 13 true).getD 2 false) ((listed.setIfInBounds 13 true).getD 4 false) ((listed.setIfInBounds 13 true).getD 6 false) ((listed.setIfInBounds 13 true).getD 7 false) ((listed.setIfInBounds 13 true).getD 11 false) ((listed.setIfInBounds 13 true).getD 12 false) w := by rw [eLa, eLb, eLd, eLe, eLx, eLs]; exact hW
      exact wp_move _ _ (Or.inr hop) (h.get ho hdep (i := 10) (d := 67) (by kernel_rfl) rfl) ⟨γ, fun _ _ => rfl, rfl, keep⟩
  · intro γ listed a w h hall
    have all : ∀ j, j < 14 → listed.getD j false = true := fun j hj => hall j (by rw [last8_size]; exact hj)
    have hW := h.wd
    obtain ⟨hge, hb⟩ := hW.rx (all 11 (by omega))
    rw [all 12 (by omega), if_pos rfl] at hb
    rw [done_putAllG 103 last8_apart hsz h hall, last8_size]
    simp only [putAll, last8_dst0, last8_dst1, last8_dst2, last8_dst3, last8_dst4, last8_dst5, last8_dst6, last8_dst7, last8_dst8, last8_dst9, last8_dst10, last8_dst11, last8_dst12, last8_dst13, put_none, v8]
    exact hQ γ w hW.bel hge hb
  · have hnn := no
    refine { bel := (Below.refl _ w3).drew, ra := fun hx => (by rw [no] at hx; cases hx), rb := fun hx => (by rw [no] at hx; cases hx), rd := fun hx => (by rw [no] at hx; cases hx), rx := fun hx => (by rw [no] at hx; cases hx), cd := fun hx => (by rw [no] at hx; cases hx), ce := fun hx => (by rw [no] at hx; cases hx), cs := fun hx => (by rw [no] at hx; cases hx) }
end Go.Proofs.YtfmhdkemigpjjaaDoor.Attr
