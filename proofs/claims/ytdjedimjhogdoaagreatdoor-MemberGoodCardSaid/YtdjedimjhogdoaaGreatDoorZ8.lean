import Derived.Test.YtdjedimjhogdoaaGreatDoorZ7
import Derived.Test.YtdjedimjhogdoaaGreatDoorZ3
import Derived.Test.YtdjedimjhogdoaaGreatDoorZ5
import Derived.Test.YtdjedimjhogdoaaGreatDoorZ4
import Derived.Test.YtdjedimjhogdoaaGreatDoorZ2
import Derived.Lib.AppendZerosOnto
import Derived.Test.YtdjedimjhogdoaaGreatDoorZ6
import Derived.Shelf.Abstract
import Derived.StillTailTactics
section
namespace Go.Proofs.YtdjedimjhogdoaaGreatDoor.Mem
open Go.ChangeShapes Go.WideShapes Go.ChangeAt Go.RowKit Go.Proofs.YtdjedimjhogdoaaGreatDoor.Base Go.Proofs.YtdjedimjhogdoaaGreatDoor.Byt Go.Proofs.YtdjedimjhogdoaaGreatDoor.Txt Go.Proofs.YtdjedimjhogdoaaGreatDoor.Bk Go.Proofs.YtdjedimjhogdoaaGreatDoor.Mk Go.Proofs.YtdjedimjhogdoaaGreatDoor.Block Go.Proofs.YtdjedimjhogdoaaGreatDoor.Hp Go.Proofs.YtdjedimjhogdoaaGreatDoor.Head Go.Proofs.YtdjedimjhogdoaaGreatDoor.Attr Go.Proofs.YtdjedimjhogdoaaGreatDoor.Rec Go.Lib Go.Shelf
set_option linter.unusedVariables false
set_option maxRecDepth 100000
section
variable {w0 w w' : World} {K : RK} {a : Nat} {s : RS} {mb : Option Nat} {v : Value} {xs : List MP} {q : Option Addr} {n c : Nat}
/-- what a step answers, from a place on -/
def StepPost (w0 : World) (K : RK) (a : Nat) (st : Step) (e : Ending) (w' : World) : Prop :=
  match st with
  | .fault er => e = .returned (.int .i64 er) ∧ Below w0.heap.size w0 w'
  | .done => False
  | .next k s' => e = .returned (.int .i64 0) ∧ Left w0 K (a + k) s' w'
theorem wait_some (s : RS) (q : Option Addr) (n c : Nat) (k : UInt8) : (waitF s q n c k).isSome = true ↔ (k = 120 ∧ s.hasX = true) ∨ (k = 76 ∧ s.name.isSome = true) ∨ (k = 75 ∧ s.link.isSome = true) := by
  unfold waitF
  by_cases h1 : k = 120
  · subst h1
    cases s.hasX <;> simp
  · by_cases h2 : k = 76
    · subst h2
      cases s.name <;> simp
    · by_cases h3 : k = 75
      · subst h3
        cases s.link <;> simp
      · simp [h1, h2, h3]
theorem ext_any (hr : Rd w0 w K (a + 512) s mb v xs q n c) (h : HeadV) (h0 : 0 ≤ h.size) (hk : isExt h.kind = true) (hN : Need w0) :
    Calls Tryz.prog 53 #[.pointer (some ⟨K.r, 0, none⟩), .agg (headC h)] w (StepPost w0 K a (extD (K.S.bs.drop a) h s)) := by
  obtain ⟨t, hs⟩ := hr.src
  have hlen := hs.len
  have hle := hs.le
  have hLL : (K.S.bs.drop a).length = K.S.n - a := by rw [List.length_drop, hlen]
  unfold extD
  by_cases h1 : (h.kind = 120 ∧ s.hasX = true) ∨ (h.kind = 76 ∧ s.name.isSome = true) ∨ (h.kind = 75 ∧ s.link.isSome = true)
  · rw [if_pos h1]
    refine (ext_waits hr h ((wait_some s q n c h.kind).2 h1)).mono ?_
    rintro e w' ⟨rfl, hb⟩
    exact ⟨rfl, hr.bel.trans (hb.mono hr.bel.size)⟩
  · rw [if_neg h1]
    have hw : waitF s q n c h.kind = none := by
      cases hx : waitF s q n c h.kind with
      | none => rfl
      | some y => exact absurd ((wait_some s q n c h.kind).1 (by rw [hx]; rfl)) h1
    by_cases h2 : 1048576 < h.size
    · rw [if_pos h2]
      refine (ext_large hr h hw h2).mono ?_
      rintro e w' ⟨rfl, hb⟩
      exact ⟨rfl, hr.bel.trans (hb.mono hr.bel.size)⟩
    · rw [if_neg h2]
      obtain ⟨k, hk0⟩ : ∃ k : Nat, h.size = (k : Int) := ⟨h.size.toNat, by omega⟩
      have hkl : k ≤ 1048576 := by omega
      have hbk : blocksOf k = padN k := rfl
      unfold bodyN
      rw [hk0, Int.toNat_natCast, hLL]
      by_cases h3 : K.S.n < a + 512 + padN k
      · rw [if_pos (by rw [hbk]; omega)]
        refine (ext_short hr h hw k hk0 hkl h3).mono ?_
        rintro e w' ⟨rfl, hb⟩
        exact ⟨rfl, hb⟩
      · rw [if_neg (by rw [hbk]; omega)]
        simp only
        obtain ⟨X, hX⟩ : ∃ X, (K.S.bs.drop (a + 512)).take k = X := ⟨_, rfl⟩
        rw [List.drop_drop, hX, hbk]
        have hl : a + 512 + padN k ≤ K.S.n := by omega
        by_cases k1 : h.kind = 76
        · rw [if_pos k1]
          refine (ext_name hr h hw k hk0 hkl X hX hl k1).mono ?_
          rintro e w' ⟨rfl, hb⟩
          rw [Nat.add_assoc] at hb
          exact ⟨rfl, hb⟩
        · rw [if_neg k1]
          by_cases k2 : h.kind = 75
          · rw [if_pos k2]
            refine (ext_link hr h hw k hk0 hkl X hX hl k2).mono ?_
            rintro e w' ⟨rfl, hb⟩
            rw [Nat.add_assoc] at hb
            exact ⟨rfl, hb⟩
          · rw [if_neg k2]
            by_cases h4 : (recsD 5 9 X).2 ≠ 0
            · rw [if_pos h4]
              refine (ext_recbad hr h hw k hk0 hkl X hX hl _ rfl h4 ⟨fun e => k1 ((u8_lit h.kind 76 (by decide)).1 e), fun e => k2 ((u8_lit h.kind 75 (by decide)).1 e)⟩ hN).mono ?_
              rintro e w' ⟨rfl, hb⟩
              exact ⟨rfl, hb⟩
            · rw [if_neg h4]
              have h5 : recsD 5 9 X = ((recsD 5 9 X).1, 0) := Prod.ext rfl (Classical.byContradiction h4)
              by_cases k3 : h.kind = 103
              · rw [if_pos k3]
                refine (ext_glob hr h hw k hk0 hkl X hX hl _ h5 k3 hN).mono ?_
                rintro e w' ⟨rfl, hb⟩
                rw [Nat.add_assoc] at hb
                exact ⟨rfl, hb⟩
              · rw [if_neg k3]
                have k4 : h.kind = 120 := by
                  unfold isExt at hk
                  simpa [k1, k2, k3] using hk
                refine (ext_own hr h hw k hk0 hkl X hX hl _ h5 k4 hN).mono ?_
                rintro e w' ⟨rfl, hb⟩
                rw [Nat.add_assoc] at hb
                exact ⟨rfl, hb⟩
end
end Go.Proofs.YtdjedimjhogdoaaGreatDoor.Mem
end
section
namespace Go.Proofs.YtdjedimjhogdoaaGreatDoor.Mem
open Go.ChangeShapes Go.WideShapes Go.ChangeAt Go.RowKit Go.Proofs.YtdjedimjhogdoaaGreatDoor.Base Go.Proofs.YtdjedimjhogdoaaGreatDoor.Byt Go.Proofs.YtdjedimjhogdoaaGreatDoor.Txt Go.Proofs.YtdjedimjhogdoaaGreatDoor.Bk Go.Proofs.YtdjedimjhogdoaaGreatDoor.Mk Go.Proofs.YtdjedimjhogdoaaGreatDoor.Block Go.Proofs.YtdjedimjhogdoaaGreatDoor.Hp Go.Proofs.YtdjedimjhogdoaaGreatDoor.Head Go.Proofs.YtdjedimjhogdoaaGreatDoor.Attr Go.Proofs.YtdjedimjhogdoaaGreatDoor.Rec Go.Proofs.YtdjedimjhogdoaaGreatDoor.Path Go.Lib Go.Shelf
set_option linter.unusedVariables false
set_option maxRecDepth 100000
section
variable {w0 w w' : World} {K : RK} {a : Nat} {s : RS} {mb : Option Nat} {v : Value} {xs : List MP} {q : Option Addr} {n c : Nat}
/-- where the records that wait lie -/
def ownV (s : RS) (q : Option Addr) (n c : Nat) : Option Addr × Nat × Nat := if s.hasX = true then (q, n, c) else (none, 0, 0)
theorem look120 (h : MapK u8K w K.mw (waitF s q n c)) {q' : Option Addr} {n' c' : Nat} (ho : ownV s q n c = (q', n', c')) :
    (Instr.lookup 68 (.map (some K.mw)) (.int .u8 120) false).run Tryz.prog w = .ok (.agg #[.string ⟨#[]⟩, .slice q' n' c']) w := by
  have := h.look Tryz.underlying68 Tryz.underlying5 extZero 120
  have e : waitF s q n c 120 = if s.hasX = true then some (.agg #[.string ⟨#[]⟩, .slice q n c]) else none := by unfold waitF; rw [if_pos rfl]
  rw [e] at this
  unfold ownV at ho
  cases hx : s.hasX with
  | true =>
    rw [hx, if_pos rfl] at ho this
    cases ho
    exact this
  | false =>
    rw [hx, if_neg (by decide)] at ho this
    cases ho
    exact this
theorem Rd.ownAt (h : Rd w0 w K a s mb v xs q n c) {q' : Option Addr} {n' c' : Nat} (ho : ownV s q n c = (q', n', c')) : RecsAt w q' n' s.own ∧ n' ≤ 1048576 := by
  unfold ownV at ho
  cases hx : s.hasX with
  | true =>
    rw [hx, if_pos rfl] at ho
    cases ho
    refine ⟨h.own, ?_⟩
    have h1 := h.own.1
    have h2 := h.ol.2
    omega
  | false =>
    rw [hx, if_neg (by decide)] at ho
    cases ho
    rw [h.own0 hx]
    exact ⟨⟨rfl, fun h => absurd h (by omega)⟩, by omega⟩
theorem ext_field (w : World) (x : ByteArray) (p : Option Addr) (m d : Nat) : (Instr.field 133 (.agg #[.string x, .slice p m d]) 1).run Tryz.prog w = .ok (.slice p m d) w := by
  kernel_rfl
theorem renD_bd (h : HeadV) (hr : Rd w0 w K a s mb v xs q n c) (h1 : h.name.length ≤ 1048576) (h2 : h.link.length ≤ 1048576) : (renD h s).name.length ≤ 1048576 ∧ (renD h s).link.length ≤ 1048576 := by
  unfold renD
  constructor
  · show (s.name.getD h.name).length ≤ _
    cases hx : s.name with
    | none => exact h1
    | some t => exact hr.nl t hx
  · show (s.link.getD h.link).length ≤ _
    cases hx : s.link with
    | none => exact h2
    | some t => exact hr.ll t hx
theorem apply_bd (h : HeadV) (hr : Rd w0 w K a s mb v xs q n c) (h0 : 0 ≤ h.size) (h1 : h.name.length ≤ 1048576) (h2 : h.link.length ≤ 1048576) :
    0 ≤ (applyD (lastD s.glob) s.own (renD h s)).1.size ∧ (applyD (lastD s.glob) s.own (renD h s)).1.name.length ≤ 1048576 ∧ (applyD (lastD s.glob) s.own (renD h s)).1.link.length ≤ 1048576 :=
  applyV_bd 1048576 (fun i _ => glob_len hr.gl hr.ol.1 _) h0 (renD_bd h hr h1 h2).1 (renD_bd h hr h1 h2).2
theorem apply_rd (h : HeadV) (hr : Rd w0 w K a s mb v xs q n c) {q' : Option Addr} {n' c' : Nat} (ho : ownV s q n c = (q', n', c')) (H : HeadV) :
    Calls Tryz.prog 83 #[.pointer (some ⟨K.gs, 0, none⟩), .agg (headC H), .slice q' n' c'] w fun e w' => e = .returned (headA (applyD (lastD s.glob) s.own H)) ∧ Below w.heap.size w w' := by
  obtain ⟨h1, h2⟩ := hr.ownAt ho
  exact apply_any _ _ _ _ _ _ _ _ hr.st.ptr (by omega) h1 (fun i _ => Nat.le_trans (glob_len hr.gl hr.ol.1 _) (by decide))
theorem fromD_body (h : HeadV) : (fromD h).1.body = [] := by
  unfold fromD
  split
  · rfl
  · split
    · rfl
    · split
      · rfl
      · split <;> rfl
theorem fromD_size {h : HeadV} (h0 : (fromD h).2 = 0) : h.size ≤ 1048576 := by
  unfold fromD at h0
  split at h0
  · rename_i h1; exact absurd h0 h1
  · split at h0
    · exact absurd h0 (by decide)
    · split at h0
      · rename_i h1; exact absurd h0 h1
      · split at h0
        · rename_i h1; exact absurd h0 h1
        · rename_i h1
          unfold sizeD at h1
          split at h1
          · exact absurd (by decide) h1
          · split at h1
            · exact absurd (by decide) h1
            · omega
/-- append of one member, in a region whose order is drawn -/
theorem step_append_member {ops : Array Oper} {o : Oper} {b : Act} {Kk : Act → World → Prop} {Q : Exit → Act → World → Prop} {E : Prop} (hw : Region.wanted o (yielded ops b.tmps) = true) (x y : Operand)
    (ho : o.op = .call { callee := .builtin .append, args := #[x, y], argTypes := #[25, 25] })
    (base : Nat) (v : Value) (xs : List MP) (hs : b.eval x = v) (hown : w.ownsRow base 37 8 v xs.length (flatM xs))
    (g : Nat) (d : Nat) (z : MP) (hx : b.eval y = .slice (some ⟨g, 0, none⟩) 1 d) (hb : Blk w g 37 z.cs) (hsum : xs.length ≤ 1000000) (hbase : base ≤ w.heap.size)
    (h : ∀ v' w', w'.ownsRow base 37 8 v' (xs ++ [z]).length (flatM (xs ++ [z])) → w.grownBy w' v.ownBlock → NewOr w v v' → Kk (b.put o.dst v') w') :
    if Region.wanted o (yielded ops b.tmps) = true then Oper.wp Tryz.prog o b w Kk Q else E := by
  rw [if_pos hw]
  obtain ⟨i0, hi, hz0, hz1, hz2⟩ := info_parts infoMem
  obtain ⟨v', w', hr, h2, h3, h4⟩ := run_append_newS (P := Tryz.prog) base 25 o.type 37 i0 _ 8 96 Tryz.underlying25 hi hz0 hz1 hz2 rfl (by decide) v xs.length (flatM xs) hown ⟨g, 0, none⟩ 1 d z.cs.toList rfl (by
    intro j u hj
    rw [WideShapes.add_plain, Nat.zero_add, hb.cell, ← Array.getElem?_toList]
    exact hj) (fun u hu => flatM_one [z] u (by simpa [flatM] using hu)) (by unfold maxLen; omega) (by omega) hbase
  have hr2 : (execOp b.eval o).run Tryz.prog w = .ok (.value v') w' := by simp [execOp, ho, resolve, invoke, builtin, hs, hx, hr, Result.andThen]
  unfold Oper.wp
  rw [hr2, Oper.upon_value]
  rw [← flatM_snoc, show xs.length + 1 = (xs ++ [z]).length by simp] at h2
  exact h v' w' h2 h3 h4
end
end Go.Proofs.YtdjedimjhogdoaaGreatDoor.Mem
end
section
namespace Go.Proofs.YtdjedimjhogdoaaGreatDoor.Mem
open Go.ChangeShapes Go.WideShapes Go.ChangeAt Go.RowKit Go.Proofs.YtdjedimjhogdoaaGreatDoor.Base Go.Proofs.YtdjedimjhogdoaaGreatDoor.Byt Go.Proofs.YtdjedimjhogdoaaGreatDoor.Txt Go.Proofs.YtdjedimjhogdoaaGreatDoor.Bk Go.Proofs.YtdjedimjhogdoaaGreatDoor.Hp Go.Proofs.YtdjedimjhogdoaaGreatDoor.Head Go.Proofs.YtdjedimjhogdoaaGreatDoor.Num Go.Proofs.YtdjedimjhogdoaaGreatDoor.Path Go.Lib
set_option linter.unusedVariables false
set_option maxRecDepth 100000

set_option maxHeartbeats 4000000 in
theorem memGood_any (m : MemV) (p : Option Addr) (c : Nat) (w : World) (h1 : m.path.length ≤ 1000000000000) (h2 : m.target.length ≤ 1000000000000) (hT : Tabs w) :
    Calls Tryz.prog 15 #[.agg (memC m p c)] w fun e w' => e = .returned (.bool (goodD m)) ∧ Below w.heap.size w w' := by
  rw [goodD_is]
  obtain ⟨⟨fm, fe⟩, hfd⟩ : ∃ x, fromD (headOfM m) = x := ⟨_, rfl⟩
  have hfb : fm.body = [] := by have := fromD_body (headOfM m); rw [hfd] at this; exact this
  have CF : ∀ wi, Below w.heap.size w wi → Calls Tryz.prog 41 #[.agg #[.string (str m.path), .string (str m.target), .int .u8 (m.kind.toNat : Int), .int .i64 m.mode, .int .i64 m.uid, .int .i64 m.gid, .int .i64 m.time, .int .i64 (m.body.length : Int), .bool false]] wi fun e w' => e = .returned (.tuple #[.agg #[.string (str fm.path), .string (str fm.target), .int .u8 (fm.kind.toNat : Int), .int .i64 fm.mode, .int .i64 fm.uid, .int .i64 fm.gid, .int .i64 fm.time, .slice none 0 0], .int .i64 fe]) ∧ Below wi.heap.size wi w' := fun wi hb => by
    have := fromHead_any (headOfM m) wi h1 h2 (hT.below hb)
    rw [hfd] at this
    unfold memC at this
    simp only [hfb, List.length_nil] at this
    exact this
  have HCF := Lib.hid CF
  have C1 := known_any m.kind
  unfold memC
  obtain ⟨kn, hkn⟩ : ∃ kn : Int, (m.kind.toNat : Int) = kn := ⟨_, rfl⟩
  obtain ⟨bl, hbl⟩ : ∃ bl, m.body.length = bl := ⟨_, rfl⟩
  rw [hkn, hbl] at HCF
  rw [hkn] at C1
  rw [hkn, hbl]
  have e1 : ((str fm.path).toList == (str m.path).toList) = decide (fm.path = m.path) := by
    rw [str_toList, str_toList]
    by_cases h : fm.path = m.path <;> simp [h]
  have e2 : ((str fm.target).toList == (str m.target).toList) = decide (fm.target = m.target) := by
    rw [str_toList, str_toList]
    by_cases h : fm.target = m.target <;> simp [h]
  rw [hfd]
  simp only
  obtain ⟨x0, hx0⟩ : ∃ x, knownD m.kind = x := ⟨_, rfl⟩
  obtain ⟨x1, hx1⟩ : ∃ x, decide (fm.path = m.path) = x := ⟨_, rfl⟩
  obtain ⟨x2, hx2⟩ : ∃ x, decide (fm.target = m.target) = x := ⟨_, rfl⟩
  rw [hx0] at C1
  rw [hx0, hx1, hx2]
  rw [hx1] at e1
  rw [hx2] at e2
  have HB := Lib.hid ((Below.refl w.heap.size w).alloc (Nat.le_refl _) (.cells #[.string (str m.path), .string (str m.target), .int .u8 kn, .int .i64 m.mode, .int .i64 m.uid, .int .i64 m.gid, .int .i64 m.time, .slice p bl c] 37))
  have HX := Lib.hid (Blk.new w 37 #[.string (str m.path), .string (str m.target), .int .u8 kn, .int .i64 m.mode, .int .i64 m.uid, .int .i64 m.gid, .int .i64 m.time, .slice p bl c])
  clear hx0 hx1 hx2 hkn hbl hfd hfb CF h1 h2 hT
  cases x0 with
  | false =>
    go_enter Tryz.func15, Tryz.ntmps15
    go_wp2_with fail
    refine (C1 _).mono ?_
    rintro e w1 ⟨rfl, rfl⟩
    go_wp2
    go_ret
    exact ⟨rfl, HB.out⟩
  | true =>
    have hb3 : ∀ (wi : World), Below (w.alloc (.cells #[.string (str m.path), .string (str m.target), .int .u8 kn, .int .i64 m.mode, .int .i64 m.uid, .int .i64 m.gid, .int .i64 m.time, .slice p bl c] 37)).heap.size (w.alloc (.cells #[.string (str m.path), .string (str m.target), .int .u8 kn, .int .i64 m.mode, .int .i64 m.uid, .int .i64 m.gid, .int .i64 m.time, .slice p bl c] 37)) wi → Below w.heap.size w (wi.alloc (.cells #[.string (str fm.path), .string (str fm.target), .int .u8 (fm.kind.toNat : Int), .int .i64 fm.mode, .int .i64 fm.uid, .int .i64 fm.gid, .int .i64 fm.time, .slice none 0 0] 37))   := fun wi hb =>
      (HB.out.trans (hb.mono HB.out.size)).alloc (HB.out.trans (hb.mono HB.out.size)).size _
    have HB3 := Lib.hid hb3
    clear hb3
    by_cases h0 : fe = 0
    · subst h0
      go_enter Tryz.func15, Tryz.ntmps15
      go_wp2_with fail
      refine (C1 _).mono ?_
      rintro e w1 ⟨rfl, rfl⟩
      go_wp2_with fail
      refine (HCF.out _ HB.out).mono ?_
      rintro e w2 ⟨rfl, hb⟩
      have F := Lib.hid (HB3.out _ hb)
      have b9 := HX.out.below (hb.alloc hb.size (.cells #[.string (str fm.path), .string (str fm.target), .int .u8 (fm.kind.toNat : Int), .int .i64 fm.mode, .int .i64 fm.uid, .int .i64 fm.gid, .int .i64 fm.time, .slice none 0 0] 37)) HX.out.lt
      have y0 := b9.cell 0
      have y1 := b9.cell 1
      simp only [List.getElem?_toArray, List.getElem?_cons_zero, List.getElem?_cons_succ] at y0 y1
      clear hb b9
      cases x1 with
      | false =>
        go_wp2
        go_ret
        exact ⟨rfl, F.out⟩
      | true =>
        go_wp2
        go_ret
        exact ⟨rfl, F.out⟩
    · have hne : (fe == 0) = false := by simpa using h0
      have hd : decide (fe = 0) = false := by simpa using h0
      rw [hd]
      go_enter Tryz.func15, Tryz.ntmps15
      go_wp2_with fail
      refine (C1 _).mono ?_
      rintro e w1 ⟨rfl, rfl⟩
      go_wp2_with fail
      refine (HCF.out _ HB.out).mono ?_
      rintro e w2 ⟨rfl, hb⟩
      have F := Lib.hid (HB3.out _ hb)
      clear hb
      go_wp2
      go_ret
      exact ⟨rfl, F.out⟩
end Go.Proofs.YtdjedimjhogdoaaGreatDoor.Mem
end
section
namespace Go.Proofs.YtdjedimjhogdoaaGreatDoor.Byt
open Go.ChangeShapes Go.WideShapes Go.ChangeAt Go.RowKit Go.Proofs.YtdjedimjhogdoaaGreatDoor.Base Go.Lib
set_option linter.unusedVariables false

/-- k zeros -/
def zs8 (k : Nat) : List Int := List.replicate k 0
theorem zeroCells_u8 (k : Nat) : (Builtin.zeroCells #[Value.int .u8 0] k).toList = (zs8 k).map (Value.int .u8) := by
  apply List.ext_getElem?
  intro i
  simp only [Builtin.zeroCells, zs8, Array.toList_map, Array.toList_range, List.map_replicate, List.getElem?_map, List.getElem?_replicate, List.size_toArray, List.length_cons, List.length_nil, Nat.zero_add, Nat.mul_one, Nat.mod_one]
  by_cases h : i < k
  · rw [List.getElem?_range h, if_pos h]
    rfl
  · rw [if_neg h, List.getElem?_eq_none (by simpa using h)]
    rfl
theorem run_zeros_own {P : Program} {w : World} (base : Nat) (t tn ty e : TypeId) (i : TypeInfo) (kq kn : IntKind) (ht : P.underlying t = some (.slice e)) (htn : P.underlying tn = some (.int kn)) (hi : P.info? e = some i) (hz : i.zero = some (.int .u8 0))
    (hsize : i.size = 1) (hby : i.bytes = 1) (v : Value) (n : Nat) (xs : List Int) (hown : w.ownsRow base e 1 v n (xs.map (Value.int .u8))) (k : Nat) (hsum : n + k ≤ 140737488351232) (hbase : base ≤ w.heap.size) :
    ∃ v' w', (Builtin.append_ #[t, tn] ty #[v, .int kq k]).run P w = .ok v' w' ∧ w'.ownsRow base e 1 v' (n + k) ((xs ++ zs8 k).map (Value.int .u8)) ∧ w.grownBy w' v.ownBlock ∧ NewOr w v v' := by
  have hw : IntKind.i64.wrap (k : Int) = k := by rw [IntKind.wrap_i64]; omega
  have hneg : ¬ ((k : Int) < 0) := by omega
  have h48i : ¬ (281474976710656 < (k : Int)) := by omega
  have hlen : ((xs ++ zs8 k).map (Value.int .u8)).length = (n + k) * 1 := by
    have := hown.1
    rw [List.length_map, List.length_append, zs8, List.length_replicate]
    rw [List.length_map] at this
    omega
  have hzc := zeroCells_u8 k
  have made : ∀ (old : Nat) (row : Option Nat), old < n + k →
      (w.drew.alloc (.cells ((xs.map (Value.int .u8)).toArray ++ Builtin.zeroCells #[Value.int .u8 0] k ++ Builtin.zeroCells #[Value.int .u8 0] (grownCap w (n + k) old e - (n + k))) e)).ownsRow base e 1 (.slice (some ⟨w.heap.size, 0, none⟩) (n + k) (grownCap w (n + k) old e)) (n + k) ((xs ++ zs8 k).map (Value.int .u8)) ∧
      w.grownBy (w.drew.alloc (.cells ((xs.map (Value.int .u8)).toArray ++ Builtin.zeroCells #[Value.int .u8 0] k ++ Builtin.zeroCells #[Value.int .u8 0] (grownCap w (n + k) old e - (n + k))) e)) row := by
    intro old row ho
    have hge := grownCap_ge w (n + k) old e
    have hcm : grownCap w (n + k) old e ≤ maxLen := grownCap_le_maxLen w (n + k) old e (by unfold maxLen; omega)
    have hxl : xs.length = n := by have := hown.1; rw [List.length_map] at this; omega
    refine ⟨⟨hlen, .inr ⟨w.heap.size, _, _, rfl, hbase, heap_alloc_new w.drew _, hge, hcm, ?_, ?_⟩⟩, ⟨rfl, rfl, rfl, by simp, fun j hj _ => heap_alloc_old w.drew _ hj⟩⟩
    · simp only [Array.size_append, List.size_toArray, List.length_map, size_zeroCells, hxl, List.length_cons, List.length_nil]
      omega
    · simp only [Array.toList_append, hzc, List.map_append]
      rw [Nat.mul_one, List.take_append_of_le_length (by rw [List.length_append, List.length_map, List.length_map, zs8, List.length_replicate, hxl]; omega), List.take_of_length_le (by rw [List.length_append, List.length_map, List.length_map, zs8, List.length_replicate, hxl]; omega)]
  by_cases hk0 : k = 0
  · subst hk0
    have hrun : (Builtin.append_ #[t, tn] ty #[v, .int kq ((0 : Nat) : Int)]).run P w = .ok v w := by
      rcases hown.2 with ⟨rfl, rfl⟩ | ⟨g, cap, cur, rfl, _, _, hnc, _⟩
      · simp [Builtin.append_, run_underlying ht, run_underlying htn, sizeOf, typeInfo, hi, asInt, asIntOf]
        have h0 : IntKind.i64.wrap 0 = 0 := hw
        simp [h0]
      · simp [Builtin.append_, run_underlying ht, run_underlying htn, sizeOf, typeInfo, hi, asInt, asIntOf]
        have h0 : IntKind.i64.wrap 0 = 0 := hw
        simp [h0, hnc, storeCells]
    exact ⟨v, w, hrun, by simpa [zs8] using hown, World.grownBy.refl w _, NewOr.refl w v⟩
  · have hk : 0 < k := by omega
    rcases hown.2 with ⟨rfl, rfl⟩ | ⟨g, cap, cur, rfl, hbg, hg, hnc, hcm, hcs, htake⟩
    · have hx : xs = [] := List.eq_nil_of_length_eq_zero (by have := hown.1; simpa using this)
      subst hx
      have hr := run_append_nil_zeros (P := P) w t tn ty e i (.int .u8 0) kq kn ht htn hi hz k hk (by omega) (by omega) (by rw [hby]; omega)
      obtain ⟨m1, m2⟩ := made 0 (Value.ownBlock (.slice none 0 0)) (by omega)
      simp only [Nat.zero_add, List.map_nil, List.nil_append, Array.empty_append] at m1 m2 ⊢
      exact ⟨_, _, hr, m1, m2, fun j hj => Or.inr (by simp [Value.ownBlock] at hj; omega)⟩
    · by_cases hroom : n + k ≤ cap
      · have hst := run_storeCells_at P g n e ((zs8 k).map (Value.int .u8)) 0 cur w hg (by rw [List.length_map, zs8, List.length_replicate, hcs]; omega) (ints_oneCell .u8 _)
        simp only [Nat.add_zero] at hst
        have hr : (Builtin.append_ #[t, tn] ty #[.slice (some ⟨g, 0, none⟩) n cap, .int kq (k : Int)]).run P w = .ok (.slice (some ⟨g, 0, none⟩) (n + k) cap) (w.setRow g (cur.toList.take n ++ (zs8 k).map (Value.int .u8) ++ cur.toList.drop (n + ((zs8 k).map (Value.int .u8)).length)).toArray) := by
          have hks : ¬ (k = 0) := hk0
          have hzc2 : (Builtin.zeroCells (Value.int .u8 0).cells k).toList = (zs8 k).map (Value.int .u8) := hzc
          simp [Builtin.append_, run_underlying ht, run_underlying htn, sizeOf, typeInfo, zeroValue, hi, hz, hsize, hby, asInt, asIntOf, hw, hneg, h48i, hks, hroom, Addr.add_lit, hzc2, hst]
        refine ⟨_, _, hr, ⟨hlen, .inr ⟨g, cap, _, rfl, hbg, setRow_heap w g cur _ e _ hg, hroom, hcm, ?_, ?_⟩⟩, ⟨rfl, rfl, rfl, by simp, fun j _ hj => setRow_other w g j _ (fun e => hj (by simp [Value.ownBlock, e]))⟩, fun j hj => Or.inl hj⟩
        · simp only [List.size_toArray, List.length_append, List.length_take, List.length_drop, Array.length_toList, List.length_map, zs8, List.length_replicate]
          omega
        · rw [Nat.mul_one] at htake ⊢
          rw [htake, List.map_append]
          simp only
          rw [List.take_append_of_le_length (by have := hown.1; rw [List.length_append, List.length_map, List.length_map, zs8, List.length_replicate]; rw [List.length_map] at this; omega), List.take_of_length_le (by have := hown.1; rw [List.length_append, List.length_map, List.length_map, zs8, List.length_replicate]; rw [List.length_map] at this; omega)]
      · have holds : ∀ j u, (xs.map (Value.int .u8))[j]? = some u → w.drew.cell? ((⟨g, 0, none⟩ : Addr).add j) = some u := fun j u hj => hown.cells (g := g) rfl j u hj
        have hold := run_firstCells_some (P := P) w.drew i.size n ⟨g, 0, none⟩ n cap (xs.map (Value.int .u8)) (by rw [hsize]; exact hown.1) holds
        have hr := run_append_grow_zeros (P := P) w t tn ty e i (.int .u8 0) kq kn ht htn hi hz (some ⟨g, 0, none⟩) n cap (xs.map (Value.int .u8)) hold k hk (by omega) (by omega) (by omega) (by rw [hby]; omega) (growslice_fits (by omega) (by rw [hby]; omega))
        obtain ⟨m1, m2⟩ := made cap (Value.ownBlock (.slice (some ⟨g, 0, none⟩) n cap)) (by omega)
        exact ⟨_, _, hr, m1, m2, fun j hj => Or.inr (by simp [Value.ownBlock] at hj; omega)⟩
theorem append_zeros_new {P : Program} {w : World} {ops : Array Oper} {rest : List Oper} {o : Oper} {a : Act} {Q : Exit → Act → World → Prop} (hgd : o.guard = none) (s x : Operand) (t tn : TypeId)
    (ho : o.op = .call { callee := .builtin .append, args := #[s, x], argTypes := #[t, tn] })
    (base : Nat) (e : TypeId) (i : TypeInfo) (kq kn : IntKind) (ht : P.underlying t = some (.slice e)) (htn : P.underlying tn = some (.int kn)) (hi : P.info? e = some i) (hz : i.zero = some (.int .u8 0)) (hsize : i.size = 1) (hby : i.bytes = 1)
    (v : Value) (n : Nat) (xs : List Int) (hs : a.eval s = v) (hown : w.ownsRow base e 1 v n (xs.map (Value.int .u8))) (K : Int) (k : Nat) (hx : a.eval x = .int kq K) (hK : K = (k : Int)) (hsum : n + k ≤ 140737488351232) (hbase : base ≤ w.heap.size)
    (h : ∀ v' w', w'.ownsRow base e 1 v' (n + k) ((xs ++ zs8 k).map (Value.int .u8)) → w.grownBy w' v.ownBlock → NewOr w v v' → wpList P ops Q rest (a.put o.dst v') w') : wpList P ops Q (o :: rest) a w := by
  subst hK
  obtain ⟨v', w', hr, h2, h3, h4⟩ := run_zeros_own (P := P) base t tn o.type e i kq kn ht htn hi hz hsize hby v n xs hown k hsum hbase
  exact Lib.wpList_append_run w hgd s x t tn ho v (.int kq k) hs hx v' w' hr (h v' w' h2 h3 h4)
/-- the same as one step of a region that draws its order -/
theorem step_zeros {P : Program} {w : World} {ops : Array Oper} {o : Oper} {a : Act} {K0 : Act → World → Prop} {Q : Exit → Act → World → Prop} {E : Prop} (hw : Region.wanted o (yielded ops a.tmps) = true) (s x : Operand) (t tn : TypeId)
    (ho : o.op = .call { callee := .builtin .append, args := #[s, x], argTypes := #[t, tn] })
    (base : Nat) (e : TypeId) (i : TypeInfo) (kq kn : IntKind) (ht : P.underlying t = some (.slice e)) (htn : P.underlying tn = some (.int kn)) (hi : P.info? e = some i) (hz : i.zero = some (.int .u8 0)) (hsize : i.size = 1) (hby : i.bytes = 1)
    (v : Value) (n : Nat) (xs : List Int) (hs : a.eval s = v) (hown : w.ownsRow base e 1 v n (xs.map (Value.int .u8))) (K : Int) (k : Nat) (hx : a.eval x = .int kq K) (hK : K = (k : Int)) (hsum : n + k ≤ 140737488351232) (hbase : base ≤ w.heap.size)
    (h : ∀ v' w', w'.ownsRow base e 1 v' (n + k) ((xs ++ zs8 k).map (Value.int .u8)) → w.grownBy w' v.ownBlock → NewOr w v v' → K0 (a.put o.dst v') w') :
    if Region.wanted o (yielded ops a.tmps) = true then Oper.wp P o a w K0 Q else E := by
  rw [if_pos hw]
  subst hK
  obtain ⟨v', w', hr, h2, h3, h4⟩ := run_zeros_own (P := P) base t tn o.type e i kq kn ht htn hi hz hsize hby v n xs hown k hsum hbase
  exact Lib.wp_append_run w s x t tn ho v (.int kq k) hs hx v' w' hr (h v' w' h2 h3 h4)
end Go.Proofs.YtdjedimjhogdoaaGreatDoor.Byt
end
section
namespace Go.Proofs.YtdjedimjhogdoaaGreatDoor.Mem
open Go.ChangeShapes Go.WideShapes Go.ChangeAt Go.RowKit Go.Proofs.YtdjedimjhogdoaaGreatDoor.Base Go.Proofs.YtdjedimjhogdoaaGreatDoor.Byt Go.Proofs.YtdjedimjhogdoaaGreatDoor.Txt Go.Proofs.YtdjedimjhogdoaaGreatDoor.Bk Go.Proofs.YtdjedimjhogdoaaGreatDoor.Hp Go.Proofs.YtdjedimjhogdoaaGreatDoor.Head Go.Proofs.YtdjedimjhogdoaaGreatDoor.Num Go.Proofs.YtdjedimjhogdoaaGreatDoor.Path Go.Proofs.YtdjedimjhogdoaaGreatDoor.Block Go.Lib
set_option linter.unusedVariables false
set_option maxRecDepth 100000

theorem take_getD (l : List UInt8) (k : Nat) (h : k < l.length) : l.take (k + 1) = l.take k ++ [l.getD k 0] := by
  rw [List.take_succ_eq_append_getElem h]
  simp [List.getD, h]
theorem mem_getD (l : List UInt8) (k : Nat) (h : k < l.length) : l.getD k 0 ∈ l := by
  rw [List.getD, List.getElem?_eq_getElem h]
  exact List.getElem_mem h
theorem rfits_any (s : ByteArray) (w : World) (hm : s.size ≤ 140737488351232) :
    Calls Tryz.prog 64 #[.string s] w fun e w' => e = .returned (.bool (fitsD s.data.toList)) ∧ w = w' := by
  have HLEN : Hid (s.data.toList.length = s.size) := Lib.hid (by simp)
  go_enter Tryz.func64, Tryz.ntmps64
  go_wp2
  go_loop [3] (fun i => ∃ (k : Nat), k ≤ s.size ∧ i = .int .i64 k ∧ Hid (∀ x ∈ s.data.toList.take k, x.toNat ≤ 127)) (fun i => s.size - (RowKit.intOf i).toNat)
  case atStart => exact ⟨0, Nat.zero_le _, rfl, Lib.hid (by simp)⟩
  case round =>
    obtain ⟨k, hk, rfl, hr⟩ := hrel
    by_cases hlt : k < s.size
    · have HG : Hid (((s[k]).toNat : Int) = ((s.data.toList.getD k 0).toNat : Int)) := Lib.hid (by rw [s_at s k hlt])
      have hkl : k < s.data.toList.length := by rw [HLEN.out]; exact hlt
      have HT := Lib.hid (take_getD s.data.toList k hkl)
      have HM := Lib.hid (mem_getD s.data.toList k hkl)
      clear hkl
      have hxb := u8_bd (s[k])
      obtain ⟨hx0, hx1⟩ := hxb
      by_cases h0 : (127 : Int) < ((s[k]).toNat : Int)
      · have E : Hid (fitsD s.data.toList = false) := Lib.hid (by
          unfold fitsD
          rw [Bool.eq_false_iff]
          intro h
          have := of_decide_eq_true (List.all_eq_true.1 h _ HM.out)
          have hg := HG.out
          omega)
        go_wp2
        go_ret
        rw [E.out]
        exact ⟨rfl, rfl⟩
      · go_wp2
        go_round
        case rel => exact ⟨k + 1, by omega, by go_num, Lib.hid (fun y hy => by
          rw [HT.out, List.mem_append] at hy
          rcases hy with hy | hy
          · exact hr.out y hy
          · simp only [List.mem_singleton] at hy
            subst hy
            have hg := HG.out
            omega)⟩
        case measure => simp [RowKit.intOf]; omega
    · have E : Hid (fitsD s.data.toList = true) := Lib.hid (by
        unfold fitsD
        rw [List.all_eq_true]
        intro x hx
        exact decide_eq_true (hr.out x (by rw [List.take_of_length_le (by rw [HLEN.out]; omega)]; exact hx)))
      go_wp2
      go_ret
      rw [E.out]
      exact ⟨rfl, rfl⟩
/-- a row of the call's own that holds these bytes -/
def PadPost (w : World) (bs : List UInt8) (e : Ending) (w' : World) : Prop := ∃ v, e = .returned v ∧ OwnB w' w.heap.size v bs.length bs ∧ Kept noneB w w'
theorem rpadded_any (p : Option Addr) (n c : Nat) (bs : List UInt8) (w : World) (hl : bs.length = n) (hn : n ≤ 100000000000) (h : BAt w p n bs) :
    Calls Tryz.prog 65 #[.slice p n c] w (PadPost w (padB bs)) := by
  obtain ⟨i0, hi, hz0, hz1, hz2⟩ := info_parts infoU8
  have HI := Lib.hid hi
  have HZ0 := Lib.hid hz0
  have HZ1 := Lib.hid hz1
  have HZ2 := Lib.hid hz2
  have HB := Lib.hid h
  have HL := Lib.hid hl
  clear hi hz0 hz1 hz2 h hl
  have hbk := blocks_ge n
  have hdiv : ((n : Int) + 511) / 512 * 512 = ((blocksOf n : Nat) : Int) := by unfold blocksOf; omega
  obtain ⟨B, hB⟩ : ∃ B, blocksOf n = B := ⟨_, rfl⟩
  rw [hB] at hbk hdiv
  have HBE := Lib.hid hB
  clear hB
  obtain ⟨hb1, hb2⟩ := hbk
  go_enter Tryz.func65, Tryz.ntmps65
  go_wp2_with (at_builtin; refine append_bytes rfl _ _ 22 rfl w.heap.size 5 i0 Tryz.underlying22 HI.out HZ0.out HZ1.out HZ2.out _ 0 [] rfl (World.ownsRow_made w #[] 0 (Nat.le_refl _) (by decide) rfl) p n c bs rfl (HB.out.alloc _) HL.out ?d2 ?d3 ?_)
  case d2 => omega
  case d3 => simp
  intro v1 w1 hown hgrow
  have HO1 : Hid (OwnB w1 w.heap.size v1 n bs) := Lib.hid (by simpa [OwnB] using hown)
  have HK1 : Hid (Kept noneB w w1) := Lib.hid ((((Kept.refl noneB w).alloc _)).grown hgrow (by intro k hk; simp [Value.ownBlock] at hk; omega))
  clear hown hgrow
  go_wp2_with (at_builtin; refine append_zeros_new rfl _ _ 22 3 rfl w.heap.size 5 i0 .i64 .i64 Tryz.underlying22 Tryz.underlying3 HI.out HZ0.out HZ1.out HZ2.out v1 n (nums bs) rfl HO1.out _ (B - n) rfl ?e1 ?e2 HK1.out.size ?_)
  case e1 => omega
  case e2 => omega
  intro v2 w2 hown hgrow _
  have F : Hid (PadPost w (padB bs) (.returned v2) w2) := Lib.hid (by
    refine ⟨v2, rfl, ?_, HK1.out.grown hgrow (fun k hk => .inl (HO1.out.lt k hk).1)⟩
    have e : nums (padB bs) = nums bs ++ zs8 (B - n) := by
      unfold padB
      rw [HL.out, HBE.out, ← show nums (List.replicate (B - n) 0) = zs8 (B - n) by simp [nums, zs8]]
      unfold nums
      rw [List.map_append]
    unfold OwnB
    rw [e, padB_length, HL.out, HBE.out]
    rw [List.map_append]
    exact hown)
  clear hown hgrow
  go_wp2
  go_ret
  exact F.out
end Go.Proofs.YtdjedimjhogdoaaGreatDoor.Mem
end
section
namespace Go.Proofs.YtdjedimjhogdoaaGreatDoor.Mp
open Go.ChangeShapes Go.WideShapes Go.ChangeAt Go.RowKit Go.Proofs.YtdjedimjhogdoaaGreatDoor.Base Go.Proofs.YtdjedimjhogdoaaGreatDoor.Byt
set_option linter.unusedVariables false

/-- each slot is one operation's; the edges that bind go back; no operation is guarded -/
def apartG (ops : Array Oper) (n : Nat) : Bool :=
  (ops.toList.zipIdx.all fun x => x.1.guard.isNone && (x.1.after.all fun e => decide (e.on < x.2) || !Region.binds .any e) && (match x.1.dst with
    | none => true
    | some d => decide (d < n) && ops.toList.zipIdx.all fun y => y.2 == x.2 || y.1.dst != some d))
theorem apartG_spec {ops : Array Oper} {n : Nat} (h : apartG ops n = true) : ∀ i o, ops[i]? = some o →
    o.guard = none ∧ (∀ e ∈ o.after, Region.binds .any e = true → e.on < i) ∧ (∀ d, o.dst = some d → d < n ∧ ∀ j oj, ops[j]? = some oj → oj.dst = some d → j = i) := by
  intro i o ho
  unfold apartG at h
  rw [List.all_eq_true] at h
  have hm : ∀ (j : Nat) (oj : Oper), ops[j]? = some oj → (oj, j) ∈ ops.toList.zipIdx := fun j oj hj => by
    rw [List.mem_iff_getElem?]
    exact ⟨j, by simp [hj]⟩
  have h1 := h (o, i) (hm i o ho)
  simp only [Bool.and_eq_true] at h1
  obtain ⟨⟨h2, h3⟩, h4⟩ := h1
  refine ⟨by simpa using h2, fun e he hb => ?_, fun d hd => ?_⟩
  · have h5 := Array.all_eq_true_iff_forall_mem.1 h3 e he
    rw [hb] at h5
    simpa using h5
  rw [hd] at h4
  simp only [Bool.and_eq_true, decide_eq_true_eq] at h4
  refine ⟨h4.1, fun j oj hj hdj => ?_⟩
  have h5 := List.all_eq_true.1 h4.2 (oj, j) (hm j oj hj)
  simp only [Bool.or_eq_true, beq_iff_eq, bne_iff_ne] at h5
  rcases h5 with h5 | h5
  · exact h5
  · exact absurd hdj h5
theorem RI.next {ops : Array Oper} {V : Nat → Value} {a0 a : Act} {W W' : Array Bool → World → Prop} {listed : Array Bool} {w w' : World} (n : Nat) (hap : apartG ops n = true) (hn : n ≤ a0.tmps.size) (h : RI ops V a0 W listed a w)
    {i : Nat} {o : Oper} (ho : ops[i]? = some o) (hun : listed.getD i true = false) (hw : W' (listed.setIfInBounds i true) w') : RI ops V a0 W' (listed.setIfInBounds i true) (a.put o.dst (V i)) w' := by
  have hlt := lt_of_unlisted hun
  obtain ⟨hg, _, hd⟩ := apartG_spec hap i o ho
  refine ⟨by simpa using h.ls, by rw [put_size]; exact h.ts, by rw [put_defers]; exact h.df, fun j oj d hj hdj hl => ?_, fun t ht => ?_, hw⟩
  · cases hod : o.dst with
    | none =>
      have hji : j ≠ i := fun e => by
        subst e
        rw [ho] at hj
        cases hj
        rw [hod] at hdj
        cases hdj
      rw [listed_get hlt, if_neg hji] at hl
      exact h.done j oj d hj hdj hl
    | some d' =>
      obtain ⟨hdn, huni⟩ := hd d' hod
      have hsz : d' < a.tmps.size := by rw [h.ts]; exact Nat.lt_of_lt_of_le hdn hn
      rw [put_eval _ hsz]
      by_cases hdd : d = d'
      · have := huni j oj hj (by rw [← hdd]; exact hdj)
        rw [if_pos hdd, this]
      · rw [if_neg hdd]
        have hji : j ≠ i := fun e => by
          subst e
          rw [ho] at hj
          cases hj
          rw [hod] at hdj
          exact hdd (Option.some.inj hdj).symm
        rw [listed_get hlt, if_neg hji] at hl
        exact h.done j oj d hj hdj hl
  · have hti : o.dst ≠ some t := fun e => by
      have := ht i o ho e
      rw [listed_get hlt, if_pos rfl] at this
      cases this
    have hold : a.eval (.tmp t) = a0.eval (.tmp t) := h.same t fun j oj hj hdj => by
      have h1 := ht j oj hj hdj
      rw [listed_get hlt] at h1
      split at h1
      · cases h1
      · exact h1
    cases hod : o.dst with
    | none => exact hold
    | some d' =>
      obtain ⟨hdn, _⟩ := hd d' hod
      rw [put_eval _ (by rw [h.ts]; exact Nat.lt_of_lt_of_le hdn hn), if_neg (fun e => hti (by rw [hod, e]))]
      exact hold
theorem wpAny_ghost {Γ : Type} {P : Program} {ops : Array Oper} {Q : Exit → Act → World → Prop} (V : Γ → Nat → Value) (γ0 : Γ) (a0 : Act) (W : Γ → Array Bool → World → Prop) (n : Nat) (hap : apartG ops n = true) (hn : n ≤ a0.tmps.size)
    (hstep : ∀ γ listed a w j o, RI ops (V γ) a0 (W γ) listed a w → ops[j]? = some o → listed.getD j true = false → (∀ e ∈ o.after, Region.binds .any e = true → listed.getD e.on false = true) →
      Oper.wp P o a w (fun a' w' => ∃ γ', (∀ i, listed.getD i false = true → V γ' i = V γ i) ∧ a' = a.put o.dst (V γ' j) ∧ W γ' (listed.setIfInBounds j true) w') Q)
    (hdone : ∀ γ listed a w, RI ops (V γ) a0 (W γ) listed a w → (∀ j, j < ops.size → listed.getD j false = true) → Q .normal a w)
    {w : World} (h0 : W γ0 (Array.replicate ops.size false) w) : wpAny P .any ops Q ops.size (Array.replicate ops.size false) a0 w := by
  have sp := apartG_spec hap
  have no : ∀ j, (Array.replicate ops.size false).getD j false = false := fun j => by
    rw [Array.getD_eq_getD_getElem?, Array.getElem?_replicate]
    split <;> rfl
  refine wpAny_inv (fun listed a w' => ∃ γ, RI ops (V γ) a0 (W γ) listed a w') (fun listed a w' i h hr => ?_) (fun listed a' w' h hr => ?_) _ _ _ _ ?_ ?_
  · obtain ⟨γ, h⟩ := h
    obtain ⟨hun, o, ho, hdep⟩ := mem_ready.1 hr
    obtain ⟨hg, _, hd⟩ := sp i o ho
    refine wpOp_step ho fun K hK => ?_
    rw [if_pos (by simp [Region.wanted, hg])]
    refine Oper.wp_mono (fun a' w'' hh => hK a' w'' ?_) (hstep γ listed a w' i o h ho hun hdep)
    obtain ⟨γ', hag, rfl, hw⟩ := hh
    have h' : RI ops (V γ') a0 (fun _ _ => True) listed a w' := ⟨h.ls, h.ts, h.df, fun j oj d hj hdj hl => (h.done j oj d hj hdj hl).trans (hag j hl).symm, h.same, trivial⟩
    exact ⟨γ', h'.next n hap hn ho hun hw⟩
  · obtain ⟨γ, h⟩ := h
    exact hdone γ _ _ _ h fun j hj => all_listed h.ls (fun i o ho => (sp i o ho).2.1) hr (j + 1) j (by omega) hj
  · unfold stillN
    exact Nat.le_trans (List.length_filter_le _ _) (by rw [List.length_range]; exact Nat.le_refl _)
  · exact ⟨γ0, Array.size_replicate, rfl, rfl, fun j o d _ _ hl => (by rw [no] at hl; cases hl), fun t _ => rfl, h0⟩
def dstAt (ops : Array Oper) (i : Nat) : Option Nat := (ops[i]?).bind fun o => o.dst
/-- all operations' values, written one after the other -/
def putAll (ops : Array Oper) (V : Nat → Value) (a0 : Act) : Nat → Act
  | 0 => a0
  | n + 1 => (putAll ops V a0 n).put (dstAt ops n) (V n)
theorem put_none (a : Act) (v : Value) : a.put none v = a := rfl
theorem putAll_size (ops : Array Oper) (V : Nat → Value) (a0 : Act) : ∀ n, (putAll ops V a0 n).tmps.size = a0.tmps.size
  | 0 => rfl
  | n + 1 => by rw [putAll, put_size, putAll_size ops V a0 n]
theorem putAll_defers (ops : Array Oper) (V : Nat → Value) (a0 : Act) : ∀ n, (putAll ops V a0 n).defers = a0.defers
  | 0 => rfl
  | n + 1 => by rw [putAll, put_defers, putAll_defers ops V a0 n]
theorem put_eval_ne {a : Act} {d : Option Nat} {t : Nat} (v : Value) (h : d ≠ some t) : (a.put d v).eval (.tmp t) = a.eval (.tmp t) := by
  cases d with
  | none => rfl
  | some d =>
    have hne : ¬ d = t := fun e => h (by rw [e])
    show ((a.tmps.setIfInBounds d v).getD t undef) = a.tmps.getD t undef
    simp [Array.getElem?_setIfInBounds_ne hne]
theorem putAll_none (ops : Array Oper) (V : Nat → Value) (a0 : Act) (t : Nat) : ∀ n, (∀ j, j < n → dstAt ops j ≠ some t) → (putAll ops V a0 n).eval (.tmp t) = a0.eval (.tmp t)
  | 0, _ => rfl
  | n + 1, h => by
    rw [putAll, put_eval_ne _ (h n (by omega))]
    exact putAll_none ops V a0 t n fun j hj => h j (by omega)
theorem putAll_some {ops : Array Oper} (V : Nat → Value) (a0 : Act) {t : Nat} (ht : t < a0.tmps.size) {i : Nat} (hi : dstAt ops i = some t) (hu : ∀ j, dstAt ops j = some t → j = i) : ∀ n, i < n → (putAll ops V a0 n).eval (.tmp t) = V i
  | 0, h => absurd h (by omega)
  | n + 1, h => by
    rw [putAll]
    by_cases hn : n = i
    · subst hn
      rw [hi, put_eval _ (by rw [putAll_size]; exact ht), if_pos rfl]
    · rw [put_eval_ne _ (fun e => hn (hu n e))]
      exact putAll_some V a0 ht hi hu n (by omega)
theorem act_ext {a b : Act} (hs : a.tmps.size = b.tmps.size) (hd : a.defers = b.defers) (h : ∀ t, a.eval (.tmp t) = b.eval (.tmp t)) : a = b := by
  obtain ⟨ta, da⟩ := a
  obtain ⟨tb, db⟩ := b
  obtain rfl : da = db := hd
  congr 1
  apply Array.ext hs
  intro i h1 h2
  have := h i
  change ta.getD i undef = tb.getD i undef at this
  rw [Array.getD_eq_getD_getElem?, Array.getD_eq_getD_getElem?, Array.getElem?_eq_getElem h1, Array.getElem?_eq_getElem h2] at this
  exact this
theorem done_putAll {ops : Array Oper} {V : Nat → Value} {a0 a : Act} {W : Array Bool → World → Prop} {listed : Array Bool} {w : World} (n : Nat) (hap : apartB ops n = true) (hn : n ≤ a0.tmps.size) (h : RI ops V a0 W listed a w) (hall : ∀ j, j < ops.size → listed.getD j false = true) : a = putAll ops V a0 ops.size := by
  have sp := apartB_spec hap
  refine act_ext (by rw [h.ts, putAll_size]) (by rw [h.df, putAll_defers]) fun t => ?_
  by_cases hex : ∃ i, dstAt ops i = some t
  · obtain ⟨i, hi⟩ := hex
    cases ho : ops[i]? with
    | none => rw [dstAt, ho] at hi; cases hi
    | some o =>
      have hd : o.dst = some t := by rw [dstAt, ho] at hi; exact hi
      have hlt := (Array.getElem?_eq_some_iff.1 ho).1
      obtain ⟨h1, h2⟩ := (sp i o ho).2.2 t hd
      rw [h.done i o t ho hd (hall i hlt), putAll_some V a0 (Nat.lt_of_lt_of_le h1 hn) hi (fun j hj => by
        cases hoj : ops[j]? with
        | none => rw [dstAt, hoj] at hj; cases hj
        | some oj => exact h2 j oj hoj (by rw [dstAt, hoj] at hj; exact hj)) _ hlt]
  · rw [putAll_none ops V a0 t _ fun j _ e => hex ⟨j, e⟩]
    exact h.same t fun j o ho hd => absurd ⟨j, by rw [dstAt, ho]; exact hd⟩ hex
theorem dep_listed {ops : Array Oper} {listed : Array Bool} {j i : Nat} {o : Oper} (ho : ops[j]? = some o) (hdep : ∀ e ∈ o.after, Region.binds .any e = true → listed.getD e.on false = true) (hd : hasDep ops j i = true) : listed.getD i false = true := by
  unfold hasDep at hd
  rw [ho] at hd
  obtain ⟨e, he, hb⟩ := Array.any_eq_true'.1 (show o.after.any _ = true from hd)
  simp only [Bool.and_eq_true, beq_iff_eq] at hb
  have hl := hdep e he hb.2
  rwa [hb.1] at hl
theorem wp_callE {P : Program} {o : Oper} {a : Act} {w : World} {K : Act → World → Prop} {Q : Exit → Act → World → Prop} (f : FuncId) (xs : Array Operand) (ts : Array TypeId) (ho : o.op = .call { callee := .value (.func f), args := xs, argTypes := ts }) (vs : Array Value) (hx : xs.map a.eval = vs)
    (hf : ∀ args w, (callFunc f args).run P w = .ok (.enter f args) w) (R : Value → World → Prop) (hc : Calls P f vs w fun e w' => ∃ v, e = .returned v ∧ R v w') (h : ∀ v w', R v w' → K (a.put o.dst v) w') : Oper.wp P o a w K Q := by
  unfold Oper.wp
  simp [execOp, ho, resolve, invoke, hx, evalF, Deferred.ofValue, hf, Oper.upon]
  refine hc.mono fun e w' he => ?_
  obtain ⟨v, rfl, hR⟩ := he
  exact h v w' hR
theorem done_putAllG {ops : Array Oper} {V : Nat → Value} {a0 a : Act} {W : Array Bool → World → Prop} {listed : Array Bool} {w : World} (n : Nat) (hap : apartG ops n = true) (hn : n ≤ a0.tmps.size) (h : RI ops V a0 W listed a w) (hall : ∀ j, j < ops.size → listed.getD j false = true) : a = putAll ops V a0 ops.size := by
  have sp := apartG_spec hap
  refine act_ext (by rw [h.ts, putAll_size]) (by rw [h.df, putAll_defers]) fun t => ?_
  by_cases hex : ∃ i, dstAt ops i = some t
  · obtain ⟨i, hi⟩ := hex
    cases ho : ops[i]? with
    | none => rw [dstAt, ho] at hi; cases hi
    | some o =>
      have hd : o.dst = some t := by rw [dstAt, ho] at hi; exact hi
      have hlt := (Array.getElem?_eq_some_iff.1 ho).1
      obtain ⟨h1, h2⟩ := (sp i o ho).2.2 t hd
      rw [h.done i o t ho hd (hall i hlt), putAll_some V a0 (Nat.lt_of_lt_of_le h1 hn) hi (fun j hj => by
        cases hoj : ops[j]? with
        | none => rw [dstAt, hoj] at hj; cases hj
        | some oj => exact h2 j oj hoj (by rw [dstAt, hoj] at hj; exact hj)) _ hlt]
  · rw [putAll_none ops V a0 t _ fun j _ e => hex ⟨j, e⟩]
    exact h.same t fun j o ho hd => absurd ⟨j, by rw [dstAt, ho]; exact hd⟩ hex
end Go.Proofs.YtdjedimjhogdoaaGreatDoor.Mp
end
section
namespace Go.Proofs.YtdjedimjhogdoaaGreatDoor.Mem
open Go.ChangeShapes Go.WideShapes Go.ChangeAt Go.RowKit Go.Shelf Go.Proofs.YtdjedimjhogdoaaGreatDoor.Base Go.Proofs.YtdjedimjhogdoaaGreatDoor.Byt Go.Proofs.YtdjedimjhogdoaaGreatDoor.Txt Go.Proofs.YtdjedimjhogdoaaGreatDoor.Bk Go.Proofs.YtdjedimjhogdoaaGreatDoor.Hp Go.Proofs.YtdjedimjhogdoaaGreatDoor.Head Go.Proofs.YtdjedimjhogdoaaGreatDoor.Mp Go.Proofs.YtdjedimjhogdoaaGreatDoor.Block Go.Lib
set_option linter.unusedVariables false
set_option maxRecDepth 100000

/-- the region's operations by another name -/
theorem wpAny_ops {P : Program} {ops ops' : Array Oper} {Q : Exit → Act → World → Prop} {a : Act} {w : World} (h : ops = ops') (hw : wpAny P .any ops' Q ops'.size (Array.replicate ops'.size false) a w) : wpAny P .any ops Q ops.size (Array.replicate ops.size false) a w := h ▸ hw
/-- append of bytes onto a row of the call's own, as one operation -/
theorem wp_append_bytes {w : World} {o : Oper} {b : Act} {Kk : Act → World → Prop} {Q : Exit → Act → World → Prop} (x y : Operand)
    (ho : o.op = .call { callee := .builtin .append, args := #[x, y], argTypes := #[22, 22] })
    (B : Nat) (v : Value) (xs : List UInt8) (hs : b.eval x = v) (hown : OwnB w B v xs.length xs)
    (p : Option Addr) (m c : Nat) (bs : List UInt8) (hx : b.eval y = .slice p m c) (hb : BAt w p m bs) (hl : bs.length = m) (hsum : xs.length + m ≤ 140737488351232) (hbase : B ≤ w.heap.size)
    (h : ∀ v' w', OwnB w' B v' (xs ++ bs).length (xs ++ bs) → w.grownBy w' v.ownBlock → NewOr w v v' → Kk (b.put o.dst v') w') : Oper.wp Tryz.prog o b w Kk Q := by
  obtain ⟨i0, hi, hz0, hz1, hz2⟩ := info_parts infoU8
  have key : ∃ v' w', (Builtin.append_ #[22, 22] o.type #[v, .slice p m c]).run Tryz.prog w = .ok v' w' ∧ OwnB w' B v' (xs ++ bs).length (xs ++ bs) ∧ w.grownBy w' v.ownBlock ∧ NewOr w v v' := by
    rcases p with _ | ad
    · have hm : m = 0 := by
        rcases Nat.eq_zero_or_pos m with h0 | h0
        · exact h0
        · obtain ⟨_, _, he, _⟩ := hb h0
          cases he
      subst hm
      obtain rfl : bs = [] := List.eq_nil_of_length_eq_zero hl
      refine ⟨v, w, ?_, by simpa using hown, World.grownBy.refl w _, fun k hk => Or.inl hk⟩
      rcases hown.2 with ⟨rfl, h0⟩ | ⟨g, cap, cur, rfl, _, _, hnc, _⟩
      · simp [Builtin.append_, run_underlying Tryz.underlying22, sizeOf, typeInfo, hi, Builtin.lenOf, Builtin.firstCells]
      · simp [Builtin.append_, run_underlying Tryz.underlying22, sizeOf, typeInfo, hi, Builtin.lenOf, Builtin.firstCells, hnc, storeCells]
    · obtain ⟨v', w', hr, h2, h3, h4⟩ := Mem.run_append_newS (P := Tryz.prog) (w := w) B 22 o.type 5 i0 (.int .u8 0) 1 1 Tryz.underlying22 hi hz0 hz1 hz2 rfl (by decide) v xs.length ((nums xs).map (Value.int .u8)) hown ad m c ((nums bs).map (Value.int .u8)) (by rw [List.length_map, nums_length, hl, Nat.mul_one]) (by
        intro j u hj
        have hjl : j < m := by
          have := (List.getElem?_eq_some_iff.1 hj).1
          rw [List.length_map, nums_length, hl] at this
          exact this
        obtain ⟨b', off, he, hc⟩ := hb (by omega)
        cases he
        rw [nums_getElem bs j (by omega)] at hj
        cases hj
        rw [WideShapes.add_plain]
        exact hc j hjl) (ints_oneCell .u8 _) (by unfold maxLen; omega) (by omega) hbase
      refine ⟨v', w', hr, ?_, h3, h4⟩
      unfold OwnB
      rw [List.length_append, hl]
      have e : (nums (xs ++ bs)).map (Value.int .u8) = (nums xs).map (Value.int .u8) ++ (nums bs).map (Value.int .u8) := by unfold nums; rw [List.map_append, List.map_append]
      rw [e]
      exact h2
  obtain ⟨v', w', hr, h2, h3, h4⟩ := key
  have hr2 : (execOp b.eval o).run Tryz.prog w = .ok (.value v') w' := by simp [execOp, ho, resolve, invoke, builtin, hs, hx, hr, Result.andThen]
  unfold Oper.wp
  rw [hr2, Oper.upon_value]
  exact h v' w' h2 h3 h4
noncomputable def put24Ops : Array Oper := regionAt Tryz.f44 24
structure put24G where
  v1 : Value
  vp : Value
  v2 : Value
def put24V (bm gy : Nat) (v0 : Value) (p : Option Addr) (bl c : Nat) (γ : put24G) : Nat → Value
  | 0 => v0 | 1 => .slice (some ⟨gy, 0, none⟩) 512 512 | 2 => γ.v1 | 3 => .pointer (some ⟨bm, 7, none⟩) | 4 => .slice p bl c | 5 => γ.vp | 6 => γ.v2 | 7 => γ.v2 | _ => undef
theorem put24_size : put24Ops.size = 8 := rfl
theorem put24_apart : apartG put24Ops 132 = true := by kernel_rfl
theorem put24_dst0 : dstAt put24Ops 0 = some 125 := rfl
theorem put24_op0 : ∃ o, put24Ops[0]? = some o ∧ o.op = .move (.tmp 8) ∧ o.dst = some 125 := ⟨_, rfl, rfl, rfl⟩
theorem put24_dst1 : dstAt put24Ops 1 = some 126 := rfl
theorem put24_op1 : ∃ o, put24Ops[1]? = some o ∧ o.op = .move (.tmp 11) ∧ o.dst = some 126 := ⟨_, rfl, rfl, rfl⟩
theorem put24_dst2 : dstAt put24Ops 2 = some 127 := rfl
theorem put24_op2 : ∃ o, put24Ops[2]? = some o ∧ o.op = .call { callee := .builtin .append, args := #[.tmp 125, .tmp 126], argTypes := #[22, 22] } ∧ o.dst = some 127 := ⟨_, rfl, rfl, rfl⟩
theorem put24_dst3 : dstAt put24Ops 3 = some 128 := rfl
theorem put24_op3 : ∃ o, put24Ops[3]? = some o ∧ o.op = .fieldAddr 37 (.tmp 1) 4 ∧ o.dst = some 128 := ⟨_, rfl, rfl, rfl⟩
theorem put24_dst4 : dstAt put24Ops 4 = some 129 := rfl
theorem put24_op4 : ∃ o, put24Ops[4]? = some o ∧ o.op = .load 22 (.tmp 128) ∧ o.dst = some 129 := ⟨_, rfl, rfl, rfl⟩
theorem put24_dst5 : dstAt put24Ops 5 = some 130 := rfl
theorem put24_op5 : ∃ o, put24Ops[5]? = some o ∧ o.op = .call { callee := .value (.func 65), args := #[.tmp 129], argTypes := #[22] } ∧ o.dst = some 130 := ⟨_, rfl, rfl, rfl⟩
theorem put24_dst6 : dstAt put24Ops 6 = some 131 := rfl
theorem put24_op6 : ∃ o, put24Ops[6]? = some o ∧ o.op = .call { callee := .builtin .append, args := #[.tmp 127, .tmp 130], argTypes := #[22, 22] } ∧ o.dst = some 131 := ⟨_, rfl, rfl, rfl⟩
theorem put24_dst7 : dstAt put24Ops 7 = some 2 := rfl
theorem put24_op7 : ∃ o, put24Ops[7]? = some o ∧ o.op = .assign (.tmp 131) ∧ o.dst = some 2 := ⟨_, rfl, rfl, rfl⟩
theorem put24V_v1 (bm gy : Nat) (v0 : Value) (p : Option Addr) (bl c : Nat) (γ : put24G) (x : Value) {i : Nat} (h : i ≠ 2) : put24V bm gy v0 p bl c { γ with v1 := x } i = put24V bm gy v0 p bl c γ i := by
  unfold put24V
  split <;> first | rfl | (exfalso; omega)
theorem put24V_vp (bm gy : Nat) (v0 : Value) (p : Option Addr) (bl c : Nat) (γ : put24G) (x : Value) {i : Nat} (h : i ≠ 5) : put24V bm gy v0 p bl c { γ with vp := x } i = put24V bm gy v0 p bl c γ i := by
  unfold put24V
  split <;> first | rfl | (exfalso; omega)
theorem put24V_v2 (bm gy : Nat) (v0 : Value) (p : Option Addr) (bl c : Nat) (γ : put24G) (x : Value) {i : Nat} (h : i ≠ 6 ∧ i ≠ 7) : put24V bm gy v0 p bl c { γ with v2 := x } i = put24V bm gy v0 p bl c γ i := by
  unfold put24V
  split <;> first | rfl | (exfalso; omega)
/-- what holds throughout -/
structure W24 (w : World) (B bm : Nat) (M : Array Value) (v0 : Value) (X Y P : List UInt8) (w1 : World) (γ : put24G) (listed : Array Bool) (w' : World) : Prop where
  bel : Below w.heap.size w w'
  le : w1.heap.size ≤ w'.heap.size
  mem : Blk w' bm 37 M
  ysrc : listed.getD 2 false = false → ∀ b o, BAt w1 (some ⟨b, o, none⟩) 512 Y → (∀ k, v0.ownBlock = some k → k ≠ b) → BAt w' (some ⟨b, o, none⟩) 512 Y
  o0 : listed.getD 2 false = false → OwnB w' B v0 X.length X
  o1 : listed.getD 2 false = true → listed.getD 6 false = false → OwnB w' B γ.v1 (X ++ Y).length (X ++ Y)
  pd : listed.getD 5 false = true → listed.getD 6 false = false → OwnB w' w1.heap.size γ.vp P.length P
  fin : listed.getD 6 false = true → OwnB w' B γ.v2 ((X ++ Y) ++ P).length ((X ++ Y) ++ P)
  c6 : listed.getD 6 false = true → listed.getD 2 false = true ∧ listed.getD 5 false = true
theorem W24.keep {w w1 w' : World} {B bm : Nat} {M : Array Value} {v0 : Value} {X Y P : List UInt8} {γ : put24G} {listed : Array Bool} (hW : W24 w B bm M v0 X Y P w1 γ listed w') {j : Nat} (hlt : j < listed.size) (hj : j ≠ 2 ∧ j ≠ 5 ∧ j ≠ 6) : W24 w B bm M v0 X Y P w1 γ (listed.setIfInBounds j true) w' := by
  have e2 : (listed.setIfInBounds j true).getD 2 false = listed.getD 2 false := by rw [listed_get hlt, if_neg (by omega)]
  have e5 : (listed.setIfInBounds j true).getD 5 false = listed.getD 5 false := by rw [listed_get hlt, if_neg (by omega)]
  have e6 : (listed.setIfInBounds j true).getD 6 false = listed.getD 6 false := by rw [listed_get hlt, if_neg (by omega)]
  exact ⟨hW.bel, hW.le, hW.mem, by rw [e2]; exact hW.ysrc, by rw [e2]; exact hW.o0, by rw [e2, e6]; exact hW.o1, by rw [e5, e6]; exact hW.pd, by rw [e6]; exact hW.fin, by rw [e2, e5, e6]; exact hW.c6⟩
set_option maxHeartbeats 4000000 in
theorem put24_region {Q' : Exit → Act → World → Prop} {a0 : Act} {w w1 : World} (B bm gy : Nat) (M : Array Value) (v0 : Value) (X Y body : List UInt8) (p : Option Addr) (bl c : Nat)
    (hsz : 132 ≤ a0.tmps.size) (h8 : a0.eval (.tmp 8) = v0) (h11 : a0.eval (.tmp 11) = .slice (some ⟨gy, 0, none⟩) 512 512) (h1 : a0.eval (.tmp 1) = .pointer (some ⟨bm, 0, none⟩))
    (hb1 : Below w.heap.size w w1) (hmem : Blk w1 bm 37 M) (hM : M[7]? = some (.slice p bl c)) (hbm : w.heap.size ≤ bm) (hv0 : OwnB w1 B v0 X.length X) (hB : bm < B) (hBw : B ≤ w1.heap.size) (hwB : w.heap.size ≤ B) (hy : BAt w1 (some ⟨gy, 0, none⟩) 512 Y) (hyl : Y.length = 512) (hyb : ∀ k, v0.ownBlock = some k → k ≠ gy)
    (hbody : BAt w p bl body) (hbl : body.length = bl) (hbl2 : bl ≤ 1048576) (hX : X.length ≤ 10000000)
    (hQ : ∀ (γ : put24G) w', OwnB w' B γ.v2 ((X ++ Y) ++ padB body).length ((X ++ Y) ++ padB body) → Below w.heap.size w w' → Q' .normal ((((((((a0.put (some 125) (v0)).put (some 126) (.slice (some ⟨gy, 0, none⟩) 512 512)).put (some 127) (γ.v1)).put (some 128) (.pointer (some ⟨bm, 7, none⟩))).put (some 129) (.slice p bl c)).put (some 130) (γ.vp)).put (some 131) (γ.v2)).put (some 2) (γ.v2)) w') :
    wpAny Tryz.prog .any put24Ops Q' put24Ops.size (Array.replicate put24Ops.size false) a0 w1.drew := by
  have no : ∀ j, (Array.replicate put24Ops.size false).getD j false = false := fun j => by
    rw [Array.getD_eq_getD_getElem?, Array.getElem?_replicate]
    split <;> rfl
  have hpl := padB_length body
  have hpg := (blocks_ge body.length).2
  obtain ⟨P, hP⟩ : ∃ P, padB body = P := ⟨_, rfl⟩
  rw [hP] at hQ hpl
  refine wpAny_ghost (Γ := put24G) (put24V bm gy v0 p bl c) { v1 := undef, vp := undef, v2 := undef } a0 (fun γ listed w' => W24 w B bm M v0 X Y P w1 γ listed w' ∧ (listed.getD 7 false = true → listed.getD 6 false = true)) 132 put24_apart hsz ?_ ?_ ?_
  · intro γ listed a w' j o hRI ho hun hdep
    have hlt := lt_of_unlisted hun
    have hW := hRI.wd.1
    have hj : j < 8 := by
      have := (Array.getElem?_eq_some_iff.1 ho).1
      rwa [put24_size] at this
    have same : ∀ {j' : Nat} {o' : Oper}, put24Ops[j']? = some o' → j = j' → o' = o := fun {j' o'} h' e => by subst e; exact Option.some.inj (h'.symm.trans ho)
    have hlf := getD_flip hun
    have hne : ∀ i, listed.getD i false = true → i ≠ j := fun i hi e => by rw [e, hlf] at hi; cases hi
    rcases (show j = 0 ∨ j = 1 ∨ j = 2 ∨ j = 3 ∨ j = 4 ∨ j = 5 ∨ j = 6 ∨ j = 7 by omega) with rfl | rfl | rfl | rfl | rfl | rfl | rfl | rfl
    · obtain ⟨o', ho', hop, hdst⟩ := put24_op0
      obtain rfl := same ho' rfl
      have e0 : a.eval (.tmp 8) = v0 := (hRI.old (t := 8) (by kernel_rfl)).trans h8
      exact wp_move _ _ (Or.inl hop) e0 ⟨γ, fun _ _ => rfl, rfl, hW.keep hlt (by decide), (fun hx => by rw [listed_get hlt, if_neg (by decide)] at hx; rw [listed_get hlt]; split; rfl; exact hRI.wd.2 hx)⟩
    · obtain ⟨o', ho', hop, hdst⟩ := put24_op1
      obtain rfl := same ho' rfl
      have e0 : a.eval (.tmp 11) = .slice (some ⟨gy, 0, none⟩) 512 512 := (hRI.old (t := 11) (by kernel_rfl)).trans h11
      exact wp_move _ _ (Or.inl hop) e0 ⟨γ, fun _ _ => rfl, rfl, hW.keep hlt (by decide), (fun hx => by rw [listed_get hlt, if_neg (by decide)] at hx; rw [listed_get hlt]; split; rfl; exact hRI.wd.2 hx)⟩
    · obtain ⟨o', ho', hop, hdst⟩ := put24_op2
      obtain rfl := same ho' rfl
      have x0 : a.eval (.tmp 125) = v0 := (hRI.get ho hdep (i := 0) (d := 125) (by kernel_rfl) rfl)
      have x1 : a.eval (.tmp 126) = .slice (some ⟨gy, 0, none⟩) 512 512 := (hRI.get ho hdep (i := 1) (d := 126) (by kernel_rfl) rfl)
      have e2 : (listed.setIfInBounds 2 true).getD 2 false = true := by rw [listed_get hlt, if_pos rfl]
      have e5 : (listed.setIfInBounds 2 true).getD 5 false = listed.getD 5 false := by rw [listed_get hlt, if_neg (by decide)]
      have e6 : (listed.setIfInBounds 2 true).getD 6 false = listed.getD 6 false := by rw [listed_get hlt, if_neg (by decide)]
      have hy' := hW.ysrc hlf gy 0 hy hyb
      have n6 : listed.getD 6 false = false := by
        cases hx : listed.getD 6 false with
        | false => rfl
        | true => have := (hW.c6 hx).1; rw [hlf] at this; cases this
      refine wp_append_bytes _ _ hop B v0 X x0 (hW.o0 hlf) (some ⟨gy, 0, none⟩) 512 512 Y x1 hy' hyl (by omega) (Nat.le_trans hBw hW.le) (fun v' w2 g1 g2 g3 => ⟨{ γ with v1 := v' }, fun i hi => put24V_v1 _ _ _ _ _ _ _ _ (hne i hi), rfl, ?_, fun hx => by rw [listed_get hlt, if_neg (by decide)] at hx; rw [listed_get hlt]; split; rfl; exact hRI.wd.2 hx⟩)
      have hk : Kept (fun k => v0.ownBlock = some k) w' w2 := (Kept.refl _ w').grown g2 (fun k hk => .inr hk)
      refine ⟨hW.bel.trans (hk.below hW.bel.size (fun k hk => Nat.le_trans hwB (hv0.lt k hk).1)), Nat.le_trans hW.le hk.size, hW.mem.keptS hk (fun e => by have := (hv0.lt _ e).1; omega), fun hx => (by rw [e2] at hx; cases hx), fun hx => (by rw [e2] at hx; cases hx), fun _ _ => g1, fun hx _ => ?_, fun hx => (by rw [e6, n6] at hx; cases hx), fun hx => (by rw [e6, n6] at hx; cases hx)⟩
      rw [e5] at hx
      exact (hW.pd hx n6).kept hk (fun k hk e => by have h1 := ((hW.pd hx n6).lt k hk).1; have h2 := (hv0.lt k e).2; omega)
    · obtain ⟨o', ho', hop, hdst⟩ := put24_op3
      obtain rfl := same ho' rfl
      have e0 : a.eval (.tmp 1) = .pointer (some ⟨bm, 0, none⟩) := (hRI.old (t := 1) (by kernel_rfl)).trans h1
      refine wp_run _ ?_ ⟨γ, fun _ _ => rfl, rfl, hW.keep hlt (by decide), (fun hx => by rw [listed_get hlt, if_neg (by decide)] at hx; rw [listed_get hlt]; split; rfl; exact hRI.wd.2 hx)⟩
      generalize a.eval = ev at e0 ⊢
      simp [go_sem, execOp, hop, e0, put24V]
    · obtain ⟨o', ho', hop, hdst⟩ := put24_op4
      obtain rfl := same ho' rfl
      have e0 : a.eval (.tmp 128) = .pointer (some ⟨bm, 7, none⟩) := (hRI.get ho hdep (i := 3) (d := 128) (by kernel_rfl) rfl)
      have q := hW.mem.cell 7
      rw [hM] at q
      refine wp_run _ ?_ ⟨γ, fun _ _ => rfl, rfl, hW.keep hlt (by decide), (fun hx => by rw [listed_get hlt, if_neg (by decide)] at hx; rw [listed_get hlt]; split; rfl; exact hRI.wd.2 hx)⟩
      generalize a.eval = ev at e0 ⊢
      simp [go_sem, execOp, hop, e0, q, put24V]
    · obtain ⟨o', ho', hop, hdst⟩ := put24_op5
      obtain rfl := same ho' rfl
      have x0 : a.eval (.tmp 129) = .slice p bl c := (hRI.get ho hdep (i := 4) (d := 129) (by kernel_rfl) rfl)
      have e2 : (listed.setIfInBounds 5 true).getD 2 false = listed.getD 2 false := by rw [listed_get hlt, if_neg (by decide)]
      have e5 : (listed.setIfInBounds 5 true).getD 5 false = true := by rw [listed_get hlt, if_pos rfl]
      have e6 : (listed.setIfInBounds 5 true).getD 6 false = listed.getD 6 false := by rw [listed_get hlt, if_neg (by decide)]
      have n6 : listed.getD 6 false = false := by
        cases hx : listed.getD 6 false with
        | false => rfl
        | true => have := (hW.c6 hx).2; rw [hlf] at this; cases this
      have hcall := rpadded_any p bl c body w' hbl (by omega) (hbody.below hW.bel)
      refine wp_callE _ _ _ hop #[.slice p bl c] (by simp [x0]) (enters_of Tryz.func65 (by kernel_rfl) rfl) (fun v w2 => OwnB w2 w'.heap.size v (padB body).length (padB body) ∧ Kept noneB w' w2) (hcall.mono fun e w2 he => by obtain ⟨v, rfl, g1, g2⟩ := he; exact ⟨v, rfl, g1, g2⟩) (fun v w2 hR => ⟨{ γ with vp := v }, fun i hi => put24V_vp _ _ _ _ _ _ _ _ (hne i hi), rfl, ?_, fun hx => by rw [listed_get hlt, if_neg (by decide)] at hx; rw [listed_get hlt]; split; rfl; exact hRI.wd.2 hx⟩)
      obtain ⟨g1, g2⟩ := hR
      rw [hP] at g1
      refine ⟨hW.bel.trans (g2.below hW.bel.size (fun _ h => h.elim)), Nat.le_trans hW.le g2.size, hW.mem.keptS g2 id, fun hx b o h1 h2 => ?_, fun hx => ?_, fun hx _ => ?_, fun _ _ => g1.mono hW.le, fun hx => (by rw [e6, n6] at hx; cases hx), fun hx => (by rw [e6, n6] at hx; cases hx)⟩
      · rw [e2] at hx
        exact (hW.ysrc hx b o h1 h2).kept g2 (fun _ _ _ => id)
      · rw [e2] at hx
        exact (hW.o0 hx).kept g2 (fun _ _ => id)
      · rw [e2] at hx
        exact (hW.o1 hx n6).kept g2 (fun _ _ => id)
    · obtain ⟨o', ho', hop, hdst⟩ := put24_op6
      obtain rfl := same ho' rfl
      have x0 : a.eval (.tmp 127) = γ.v1 := (hRI.get ho hdep (i := 2) (d := 127) (by kernel_rfl) rfl)
      have x1 : a.eval (.tmp 130) = γ.vp := (hRI.get ho hdep (i := 5) (d := 130) (by kernel_rfl) rfl)
      have e2 : (listed.setIfInBounds 6 true).getD 2 false = listed.getD 2 false := by rw [listed_get hlt, if_neg (by decide)]
      have e5 : (listed.setIfInBounds 6 true).getD 5 false = listed.getD 5 false := by rw [listed_get hlt, if_neg (by decide)]
      have e6 : (listed.setIfInBounds 6 true).getD 6 false = true := by rw [listed_get hlt, if_pos rfl]
      have l2 : listed.getD 2 false = true := dep_listed ho hdep (by kernel_rfl)
      have l5 : listed.getD 5 false = true := dep_listed ho hdep (by kernel_rfl)
      obtain ⟨pp, pc, hvp, _, _, hpb, _, _⟩ := (hW.pd l5 hlf).slice
      rw [hvp] at x1
      have hlxy : (X ++ Y).length ≤ 20000000 := by rw [List.length_append]; omega
      have ho1 := hW.o1 l2 hlf
      refine wp_append_bytes _ _ hop B γ.v1 (X ++ Y) x0 ho1 pp P.length pc P x1 hpb rfl (by omega) (Nat.le_trans hBw hW.le) (fun v' w2 g1 g2 g3 => ⟨{ γ with v2 := v' }, fun i hi => put24V_v2 _ _ _ _ _ _ _ _ ⟨hne i hi, fun e => ?_⟩, rfl, ?_, fun _ => by rw [listed_get hlt, if_pos rfl]⟩)
      · subst e
        rw [hRI.wd.2 hi] at hlf
        cases hlf
      have hk : Kept (fun k => γ.v1.ownBlock = some k) w' w2 := (Kept.refl _ w').grown g2 (fun k hk => .inr hk)
      exact ⟨hW.bel.trans (hk.below hW.bel.size (fun k hk => Nat.le_trans hwB (ho1.lt k hk).1)), Nat.le_trans hW.le hk.size, hW.mem.keptS hk (fun e => by have := (ho1.lt _ e).1; omega), fun hx => (by rw [e2, l2] at hx; cases hx), fun hx => (by rw [e2, l2] at hx; cases hx), fun _ hx => (by rw [e6] at hx; cases hx), fun _ hx => (by rw [e6] at hx; cases hx), fun _ => g1, fun _ => ⟨by rw [e2]; exact l2, by rw [e5]; exact l5⟩⟩
    · obtain ⟨o', ho', hop, hdst⟩ := put24_op7
      obtain rfl := same ho' rfl
      have e0 : a.eval (.tmp 131) = γ.v2 := (hRI.get ho hdep (i := 6) (d := 131) (by kernel_rfl) rfl)
      exact wp_move _ _ (Or.inr hop) e0 ⟨γ, fun _ _ => rfl, rfl, hW.keep hlt (by decide), (fun _ => by rw [listed_get hlt, if_neg (by decide)]; exact dep_listed ho hdep (by kernel_rfl))⟩
  · intro γ listed a w' hRI hall
    have all : ∀ j, j < 8 → listed.getD j false = true := fun j hj => hall j (by rw [put24_size]; exact hj)
    have hW := hRI.wd.1
    rw [done_putAllG 132 put24_apart hsz hRI hall, put24_size]
    simp only [putAll, put24_dst0, put24_dst1, put24_dst2, put24_dst3, put24_dst4, put24_dst5, put24_dst6, put24_dst7, put24V]
    exact hQ γ w' (hW.fin (all 6 (by omega))) hW.bel
  · exact ⟨⟨hb1.drew, Nat.le_refl _, hmem.drew, fun _ b o h1 _ => h1.below (Below.refl _ _).drew, fun _ => hv0.kept ((Kept.refl noneB w1).drew) (fun _ _ => id), fun hx => (by rw [no] at hx; cases hx), fun hx => (by rw [no] at hx; cases hx), fun hx => (by rw [no] at hx; cases hx), fun hx => (by rw [no] at hx; cases hx)⟩, fun hx => (by rw [no] at hx; cases hx)⟩
end Go.Proofs.YtdjedimjhogdoaaGreatDoor.Mem
end
section
namespace Go.Proofs.YtdjedimjhogdoaaGreatDoor.Head
open Go.ChangeShapes Go.WideShapes Go.ChangeAt Go.RowKit Go.Proofs.YtdjedimjhogdoaaGreatDoor.Base Go.Proofs.YtdjedimjhogdoaaGreatDoor.Byt Go.Proofs.YtdjedimjhogdoaaGreatDoor.Txt Go.Proofs.YtdjedimjhogdoaaGreatDoor.Hp Go.Proofs.YtdjedimjhogdoaaGreatDoor.Mp Go.Lib
set_option linter.unusedVariables false
set_option maxRecDepth 100000

theorem slice_at (b o c l h : Nat) (hl : l ≤ h) (h5 : h ≤ 512) (hc : 512 ≤ c) (hl5 : l < 512) (w : World) :
    (Instr.sliceAt 22 (.slice (some ⟨b, o, none⟩) 512 c) (some (.int .i64 (l : Int))) (some (.int .i64 (h : Int))) none).run Tryz.prog w = .ok (.slice (some ⟨b, o + l, none⟩) (h - l) (c - l)) w := by
  have fl := Tryz.underlying22
  have h1 : (l : Int) ≤ h := by omega
  have h2 : (h : Int) ≤ c := by omega
  have h3 : ¬ c = l := by omega
  simp [go_sem, Instr.sliceAt, Instr.slice, Instr.sliceBounds, Result.andThen, h1, h2, h3, Addr.add]
theorem slice_to (b o c h : Nat) (h5 : h ≤ 512) (hc : 512 ≤ c) (w : World) :
    (Instr.sliceAt 22 (.slice (some ⟨b, o, none⟩) 512 c) none (some (.int .i64 (h : Int))) none).run Tryz.prog w = .ok (.slice (some ⟨b, o, none⟩) h c) w := by
  have fl := Tryz.underlying22
  have h2 : (h : Int) ≤ c := by omega
  simp [go_sem, Instr.sliceAt, Instr.slice, Instr.sliceBounds, Result.andThen, h2, Addr.add]
noncomputable def refOps : Array Oper := regionAt Tryz.f33 9
/-- what each operation yields -/
def rV (S S1 S2 : Value) (pt : Addr) (mg x0 x1 : ByteArray) (gnu : Bool) (kd : Int) (g : Nat) : Nat → Value
  | 0 => .string mg | 1 => .bool gnu | 2 => S | 3 => .pointer (some pt) | 4 => .int .u8 kd | 5 => S | 6 => S1 | 7 => .string x0 | 8 => S | 9 => S2 | 10 => .string x1
  | 11 => .agg #[.string x0, .string x1, .int .u8 kd, .int .i64 0, .int .i64 0, .int .i64 0, .int .i64 0, .int .i64 0, .bool gnu] | 12 => .pointer (some ⟨g, 0, none⟩) | _ => undef
theorem ref_size : refOps.size = 14 := rfl
theorem ref_apart : apartB refOps 118 = true := by kernel_rfl
theorem rdst0 : dstAt refOps 0 = some 43 := rfl
theorem rop0 : ∃ o, refOps[0]? = some o ∧ o.op = .move (.tmp 6) ∧ o.dst = some 43 := ⟨_, rfl, rfl, rfl⟩
theorem rdst1 : dstAt refOps 1 = some 44 := rfl
theorem rop1 : ∃ o, refOps[1]? = some o ∧ o.op = .binOp .eql 9 (.tmp 43) (.const (.string ⟨#[117, 115, 116, 97, 114, 32, 32, 0]⟩)) 9 ∧ o.dst = some 44 := ⟨_, rfl, rfl, rfl⟩
theorem rdst2 : dstAt refOps 2 = some 45 := rfl
theorem rop2 : ∃ o, refOps[2]? = some o ∧ o.op = .move (.tmp 0) ∧ o.dst = some 45 := ⟨_, rfl, rfl, rfl⟩
theorem rdst3 : dstAt refOps 3 = some 46 := rfl
theorem rop3 : ∃ o, refOps[3]? = some o ∧ o.op = .indexAddr 22 (.tmp 45) (.const (.int .i64 156)) ∧ o.dst = some 46 := ⟨_, rfl, rfl, rfl⟩
theorem rdst4 : dstAt refOps 4 = some 47 := rfl
theorem rop4 : ∃ o, refOps[4]? = some o ∧ o.op = .load 5 (.tmp 46) ∧ o.dst = some 47 := ⟨_, rfl, rfl, rfl⟩
theorem rdst5 : dstAt refOps 5 = some 48 := rfl
theorem rop5 : ∃ o, refOps[5]? = some o ∧ o.op = .move (.tmp 0) ∧ o.dst = some 48 := ⟨_, rfl, rfl, rfl⟩
theorem rdst6 : dstAt refOps 6 = some 49 := rfl
theorem rop6 : ∃ o, refOps[6]? = some o ∧ o.op = .slice 22 (.tmp 48) none (some (.const (.int .i64 100))) none ∧ o.dst = some 49 := ⟨_, rfl, rfl, rfl⟩
theorem rdst7 : dstAt refOps 7 = some 50 := rfl
theorem rop7 : ∃ o, refOps[7]? = some o ∧ o.op = .call { callee := .value (.func 56), args := #[.tmp 49], argTypes := #[22] } ∧ o.dst = some 50 := ⟨_, rfl, rfl, rfl⟩
theorem rdst8 : dstAt refOps 8 = some 51 := rfl
theorem rop8 : ∃ o, refOps[8]? = some o ∧ o.op = .move (.tmp 0) ∧ o.dst = some 51 := ⟨_, rfl, rfl, rfl⟩
theorem rdst9 : dstAt refOps 9 = some 52 := rfl
theorem rop9 : ∃ o, refOps[9]? = some o ∧ o.op = .slice 22 (.tmp 51) (some (.const (.int .i64 157))) (some (.const (.int .i64 257))) none ∧ o.dst = some 52 := ⟨_, rfl, rfl, rfl⟩
theorem rdst10 : dstAt refOps 10 = some 53 := rfl
theorem rop10 : ∃ o, refOps[10]? = some o ∧ o.op = .call { callee := .value (.func 56), args := #[.tmp 52], argTypes := #[22] } ∧ o.dst = some 53 := ⟨_, rfl, rfl, rfl⟩
theorem rdst11 : dstAt refOps 11 = some 54 := rfl
theorem rop11 : ∃ o, refOps[11]? = some o ∧ o.op = .build 57 #[(5, .tmp 44), (2, .tmp 47), (0, .tmp 50), (1, .tmp 53)] ∧ o.dst = some 54 := ⟨_, rfl, rfl, rfl⟩
theorem rdst12 : dstAt refOps 12 = some 7 := rfl
theorem rop12 : ∃ o, refOps[12]? = some o ∧ o.op = .alloc 57 ∧ o.dst = some 7 := ⟨_, rfl, rfl, rfl⟩
theorem rdst13 : dstAt refOps 13 = none := rfl
theorem rop13 : ∃ o, refOps[13]? = some o ∧ o.op = .store 57 (.tmp 7) (.tmp 54) ∧ o.dst = none := ⟨_, rfl, rfl, rfl⟩
theorem r_build_part (w : World) (n l : ByteArray) (k : Int) (g : Bool) : (Instr.build 57 #[(5, .bool g), (2, .int .u8 k), (0, .string n), (1, .string l)]).run Tryz.prog w = .ok (.agg #[.string n, .string l, .int .u8 k, .int .i64 0, .int .i64 0, .int .i64 0, .int .i64 0, .int .i64 0, .bool g]) w := by kernel_rfl
theorem alloc_head (w : World) : (Instr.alloc 57 true (.tuple #[])).run Tryz.prog w = .ok (.pointer (some ⟨w.heap.size, 0, none⟩)) (w.alloc (.cells zeroCs 57)) := by kernel_rfl
set_option maxHeartbeats 1000000 in
theorem ref_region {Q' : Exit → Act → World → Prop} {a0 : Act} {w3 : World} (g : Nat) (S S1 S2 : Value) (pt : Addr) (mg x0 x1 : ByteArray) (gnu : Bool) (kd : Int)
    (hsz : 118 ≤ a0.tmps.size) (h0 : a0.eval (.tmp 0) = S) (h6 : a0.eval (.tmp 6) = .string mg) (hg : g = w3.heap.size)
    (hix : ∀ w, (Instr.indexAt 22 S (.int .i64 156)).run Tryz.prog w = .ok (.pointer (some pt)) w)
    (hld : ∀ w, Kept noneB w3 w → (Instr.loadAt 5 (.pointer (some pt))).run Tryz.prog w = .ok (.int .u8 kd) w)
    (hs1 : ∀ w, (Instr.sliceAt 22 S none (some (.int .i64 100)) none).run Tryz.prog w = .ok S1 w)
    (hs2 : ∀ w, (Instr.sliceAt 22 S (some (.int .i64 157)) (some (.int .i64 257)) none).run Tryz.prog w = .ok S2 w)
    (hu1 : ∀ w, Kept noneB w3 w → Calls Tryz.prog 56 #[S1] w fun e w' => e = .returned (.string x0) ∧ w = w')
    (hu2 : ∀ w, Kept noneB w3 w → Calls Tryz.prog 56 #[S2] w fun e w' => e = .returned (.string x1) ∧ w = w')
    (hgn : (mg.toList == [117, 115, 116, 97, 114, 32, 32, 0]) = gnu)
    (hQ : ∀ w', w'.heap[g]? = some (.cells #[.string x0, .string x1, .int .u8 kd, .int .i64 0, .int .i64 0, .int .i64 0, .int .i64 0, .int .i64 0, .bool gnu] 57 (0, 0)) → Kept noneB w3 w' → Q' .normal (((((((((((((a0.put (some 43) (.string mg)).put (some 44) (.bool gnu)).put (some 45) (S)).put (some 46) (.pointer (some pt))).put (some 47) (.int .u8 kd)).put (some 48) (S)).put (some 49) (S1)).put (some 50) (.string x0)).put (some 51) (S)).put (some 52) (S2)).put (some 53) (.string x1)).put (some 54) (.agg #[.string x0, .string x1, .int .u8 kd, .int .i64 0, .int .i64 0, .int .i64 0, .int .i64 0, .int .i64 0, .bool gnu])).put (some 7) (.pointer (some ⟨g, 0, none⟩))) w') :
    wpAny Tryz.prog .any refOps Q' refOps.size (Array.replicate refOps.size false) a0 w3.drew := by
  have no : ∀ j, (Array.replicate refOps.size false).getD j false = false := fun j => by
    rw [Array.getD_eq_getD_getElem?, Array.getElem?_replicate]
    split <;> rfl
  obtain ⟨C, hC⟩ : ∃ C : Array Value, C = #[.string x0, .string x1, .int .u8 kd, .int .i64 0, .int .i64 0, .int .i64 0, .int .i64 0, .int .i64 0, .bool gnu] := ⟨_, rfl⟩
  refine wpAny_vals (rV S S1 S2 pt mg x0 x1 gnu kd g) a0 (fun listed w => Kept noneB w3 w ∧ (listed.getD 12 false = false → w.heap.size = g) ∧ (listed.getD 12 false = true → w.heap[g]? = some (.cells (if listed.getD 13 false = true then C else zeroCs) 57 (0, 0))) ∧ (listed.getD 13 false = true → listed.getD 12 false = true)) 118 ref_apart hsz ?_ ?_
    ⟨(Kept.refl _ w3).drew, fun _ => hg.symm, fun h => (by rw [no] at h; cases h), fun h => (by rw [no] at h; cases h)⟩
  · intro listed a w j o h ho hun hdep
    have hlt := lt_of_unlisted hun
    obtain ⟨hk, hh1, hh2, hh3⟩ := h.wd
    have keep : j ≠ 12 → j ≠ 13 → Kept noneB w3 w ∧ ((listed.setIfInBounds j true).getD 12 false = false → w.heap.size = g) ∧ ((listed.setIfInBounds j true).getD 12 false = true → w.heap[g]? = some (.cells (if (listed.setIfInBounds j true).getD 13 false = true then C else zeroCs) 57 (0, 0))) ∧ ((listed.setIfInBounds j true).getD 13 false = true → (listed.setIfInBounds j true).getD 12 false = true) := fun hj hj' => by
      rw [listed_get hlt, if_neg (Ne.symm hj), listed_get hlt, if_neg (Ne.symm hj')]
      exact ⟨hk, hh1, hh2, hh3⟩
    have hj14 : j < 14 := by
      have := (Array.getElem?_eq_some_iff.1 ho).1
      rwa [ref_size] at this
    have same : ∀ {j' : Nat} {o' : Oper}, refOps[j']? = some o' → j = j' → o' = o := fun {j' o'} h' e => by subst e; exact Option.some.inj (h'.symm.trans ho)
    rcases (show j = 0 ∨ j = 1 ∨ j = 2 ∨ j = 3 ∨ j = 4 ∨ j = 5 ∨ j = 6 ∨ j = 7 ∨ j = 8 ∨ j = 9 ∨ j = 10 ∨ j = 11 ∨ j = 12 ∨ j = 13 by omega) with rfl | rfl | rfl | rfl | rfl | rfl | rfl | rfl | rfl | rfl | rfl | rfl | rfl | rfl
    · obtain ⟨o', ho', hop, hdst⟩ := rop0
      obtain rfl := same ho' rfl
      exact wp_move _ _ (Or.inl hop) ((h.old (t := 6) (by kernel_rfl)).trans h6) ⟨rfl, (keep (by decide) (by decide))⟩
    · obtain ⟨o', ho', hop, hdst⟩ := rop1
      obtain rfl := same ho' rfl
      have e : a.eval (.tmp 43) = .string mg := (h.get ho hdep (i := 0) (d := 43) (by kernel_rfl) rfl)
      refine wp_run (.bool gnu) ?_ ⟨rfl, (keep (by decide) (by decide))⟩
      have ec : a.eval (.const (.string ⟨#[117, 115, 116, 97, 114, 32, 32, 0]⟩)) = .string ⟨#[117, 115, 116, 97, 114, 32, 32, 0]⟩ := rfl
      generalize a.eval = ev at e ec ⊢
      simp [go_sem, execOp, hop, e, ec, hgn]
    · obtain ⟨o', ho', hop, hdst⟩ := rop2
      obtain rfl := same ho' rfl
      exact wp_move _ _ (Or.inl hop) ((h.old (t := 0) (by kernel_rfl)).trans h0) ⟨rfl, (keep (by decide) (by decide))⟩
    · obtain ⟨o', ho', hop, hdst⟩ := rop3
      obtain rfl := same ho' rfl
      have e : a.eval (.tmp 45) = S := (h.get ho hdep (i := 2) (d := 45) (by kernel_rfl) rfl)
      refine wp_run _ ?_ ⟨rfl, (keep (by decide) (by decide))⟩
      have q := hix w
      simp [execOp, hop, e, evalC, q, Result.andThen, rV]
    · obtain ⟨o', ho', hop, hdst⟩ := rop4
      obtain rfl := same ho' rfl
      have e : a.eval (.tmp 46) = .pointer (some pt) := (h.get ho hdep (i := 3) (d := 46) (by kernel_rfl) rfl)
      refine wp_run _ ?_ ⟨rfl, (keep (by decide) (by decide))⟩
      have q := hld w hk
      simp [execOp, hop, e, q, Result.andThen, rV]
    · obtain ⟨o', ho', hop, hdst⟩ := rop5
      obtain rfl := same ho' rfl
      exact wp_move _ _ (Or.inl hop) ((h.old (t := 0) (by kernel_rfl)).trans h0) ⟨rfl, (keep (by decide) (by decide))⟩
    · obtain ⟨o', ho', hop, hdst⟩ := rop6
      obtain rfl := same ho' rfl
      have e : a.eval (.tmp 48) = S := (h.get ho hdep (i := 5) (d := 48) (by kernel_rfl) rfl)
      refine wp_run _ ?_ ⟨rfl, (keep (by decide) (by decide))⟩
      have q := hs1 w
      simp [execOp, hop, e, evalC, q, Result.andThen, rV]
    · obtain ⟨o', ho', hop, hdst⟩ := rop7
      obtain rfl := same ho' rfl
      have e0 : a.eval (.tmp 49) = S1 := (h.get ho hdep (i := 6) (d := 49) (by kernel_rfl) rfl)
      exact wp_call _ _ _ hop #[S1] (by simp [e0]) (enters_of Tryz.func56 (by kernel_rfl) rfl) (.string x0) (fun w' => w = w') (hu1 w hk) (fun w' hw => by subst hw; exact ⟨rfl, (keep (by decide) (by decide))⟩)
    · obtain ⟨o', ho', hop, hdst⟩ := rop8
      obtain rfl := same ho' rfl
      exact wp_move _ _ (Or.inl hop) ((h.old (t := 0) (by kernel_rfl)).trans h0) ⟨rfl, (keep (by decide) (by decide))⟩
    · obtain ⟨o', ho', hop, hdst⟩ := rop9
      obtain rfl := same ho' rfl
      have e : a.eval (.tmp 51) = S := (h.get ho hdep (i := 8) (d := 51) (by kernel_rfl) rfl)
      refine wp_run _ ?_ ⟨rfl, (keep (by decide) (by decide))⟩
      have q := hs2 w
      simp [execOp, hop, e, evalC, q, Result.andThen, rV]
    · obtain ⟨o', ho', hop, hdst⟩ := rop10
      obtain rfl := same ho' rfl
      have e0 : a.eval (.tmp 52) = S2 := (h.get ho hdep (i := 9) (d := 52) (by kernel_rfl) rfl)
      exact wp_call _ _ _ hop #[S2] (by simp [e0]) (enters_of Tryz.func56 (by kernel_rfl) rfl) (.string x1) (fun w' => w = w') (hu2 w hk) (fun w' hw => by subst hw; exact ⟨rfl, (keep (by decide) (by decide))⟩)
    · obtain ⟨o', ho', hop, hdst⟩ := rop11
      obtain rfl := same ho' rfl
      have e0 : a.eval (.tmp 44) = .bool gnu := (h.get ho hdep (i := 1) (d := 44) (by kernel_rfl) rfl)
      have e1 : a.eval (.tmp 47) = .int .u8 kd := (h.get ho hdep (i := 4) (d := 47) (by kernel_rfl) rfl)
      have e2 : a.eval (.tmp 50) = .string x0 := (h.get ho hdep (i := 7) (d := 50) (by kernel_rfl) rfl)
      have e3 : a.eval (.tmp 53) = .string x1 := (h.get ho hdep (i := 10) (d := 53) (by kernel_rfl) rfl)
      refine wp_run _ ?_ ⟨rfl, (keep (by decide) (by decide))⟩
      have b := r_build_part w x0 x1 kd gnu
      simp [execOp, hop, e0, e1, e2, e3, b, Result.andThen, rV]
    · obtain ⟨o', ho', hop, hdst⟩ := rop12
      obtain rfl := same ho' rfl
      have q := alloc_head w
      rw [hh1 (getD_flip hun)] at q
      have hno13 : listed.getD 13 false = false := by
        cases hx : listed.getD 13 false with
        | false => rfl
        | true =>
          have h1 := hh3 hx
          rw [getD_flip hun] at h1
          cases h1
      have hr : (execOp a.eval o').run Tryz.prog w = .ok (.value (.pointer (some ⟨g, 0, none⟩))) (w.alloc (.cells zeroCs 57)) := by simp [execOp, hop, q, Result.andThen]
      unfold Oper.wp
      rw [hr, Oper.upon_value]
      refine ⟨rfl, hk.alloc _, fun hx => ?_, fun _ => ?_, fun _ => by rw [listed_get hlt, if_pos rfl]⟩
      · rw [listed_get hlt, if_pos rfl] at hx
        cases hx
      · rw [listed_get hlt, if_neg (show ¬ (13 = 12) by decide), hno13, if_neg (by decide), ← hh1 (getD_flip hun)]
        exact heap_alloc_new w _
    · obtain ⟨o', ho', hop, hdst⟩ := rop13
      obtain rfl := same ho' rfl
      have e0 : a.eval (.tmp 7) = .pointer (some ⟨g, 0, none⟩) := (h.get ho hdep (i := 12) (d := 7) (by kernel_rfl) rfl)
      have e1 : a.eval (.tmp 54) = rV S S1 S2 pt mg x0 x1 gnu kd g 11 := (h.get ho hdep (i := 11) (d := 54) (by kernel_rfl) rfl)
      have l12 : listed.getD 12 false = true := dep_listed ho hdep (by kernel_rfl)
      have hz := hh2 l12
      rw [if_neg (by rw [getD_flip hun]; decide)] at hz
      refine wp_store9 _ _ hop g e0 x0 x1 kd 0 0 0 0 0 gnu e1 hz (fun w' hw' hk' => ⟨rfl, ?_, fun hx => ?_, fun _ => ?_, fun _ => by rw [listed_get hlt, if_neg (by decide)]; exact l12⟩)
      · exact hk.then hk' (fun i hi => Or.inl (by
          have h1 : i = g := hi
          rw [h1, hg]
          exact Nat.le_refl _))
      · rw [listed_get hlt, if_neg (by decide), l12] at hx
        cases hx
      · rw [listed_get hlt, if_pos rfl, if_pos rfl, hC]
        exact hw'
  · intro listed a w h hall
    have all : ∀ j, j < 14 → listed.getD j false = true := fun j hj => hall j (by rw [ref_size]; exact hj)
    obtain ⟨hk, _, hh, _⟩ := h.wd
    have hh := hh (all 12 (by omega))
    rw [all 13 (by omega), if_pos rfl] at hh
    rw [hC] at hh
    rw [done_putAll 118 ref_apart hsz h hall, ref_size]
    simp only [putAll, put_none, rdst0, rdst1, rdst2, rdst3, rdst4, rdst5, rdst6, rdst7, rdst8, rdst9, rdst10, rdst11, rdst12, rdst13]
    exact hQ w hh hk
noncomputable def refOps2 : Array Oper := regionAt Tryz.f33 16
def rV2 (S S1 S2 S3 S4 S5 : Value) (g : Nat) : Nat → Value
  | 0 => S | 1 => S1 | 2 => S | 3 => S2 | 4 => S | 5 => S3 | 6 => S | 7 => S4 | 8 => S | 9 => S5 | 10 => .slice (some ⟨g, 0, none⟩) 5 5 | 11 => .slice (some ⟨g, 0, none⟩) 5 5 | _ => undef
theorem ref2_size : refOps2.size = 12 := rfl
theorem ref2_apart : apartB refOps2 118 = true := by kernel_rfl
theorem qdst0 : dstAt refOps2 0 = some 75 := rfl
theorem qop0 : ∃ o, refOps2[0]? = some o ∧ o.op = .move (.tmp 0) ∧ o.dst = some 75 := ⟨_, rfl, rfl, rfl⟩
theorem qdst1 : dstAt refOps2 1 = some 76 := rfl
theorem qop1 : ∃ o, refOps2[1]? = some o ∧ o.op = .slice 22 (.tmp 75) (some (.const (.int .i64 100))) (some (.const (.int .i64 108))) none ∧ o.dst = some 76 := ⟨_, rfl, rfl, rfl⟩
theorem qdst2 : dstAt refOps2 2 = some 77 := rfl
theorem qop2 : ∃ o, refOps2[2]? = some o ∧ o.op = .move (.tmp 0) ∧ o.dst = some 77 := ⟨_, rfl, rfl, rfl⟩
theorem qdst3 : dstAt refOps2 3 = some 78 := rfl
theorem qop3 : ∃ o, refOps2[3]? = some o ∧ o.op = .slice 22 (.tmp 77) (some (.const (.int .i64 108))) (some (.const (.int .i64 116))) none ∧ o.dst = some 78 := ⟨_, rfl, rfl, rfl⟩
theorem qdst4 : dstAt refOps2 4 = some 79 := rfl
theorem qop4 : ∃ o, refOps2[4]? = some o ∧ o.op = .move (.tmp 0) ∧ o.dst = some 79 := ⟨_, rfl, rfl, rfl⟩
theorem qdst5 : dstAt refOps2 5 = some 80 := rfl
theorem qop5 : ∃ o, refOps2[5]? = some o ∧ o.op = .slice 22 (.tmp 79) (some (.const (.int .i64 116))) (some (.const (.int .i64 124))) none ∧ o.dst = some 80 := ⟨_, rfl, rfl, rfl⟩
theorem qdst6 : dstAt refOps2 6 = some 81 := rfl
theorem qop6 : ∃ o, refOps2[6]? = some o ∧ o.op = .move (.tmp 0) ∧ o.dst = some 81 := ⟨_, rfl, rfl, rfl⟩
theorem qdst7 : dstAt refOps2 7 = some 82 := rfl
theorem qop7 : ∃ o, refOps2[7]? = some o ∧ o.op = .slice 22 (.tmp 81) (some (.const (.int .i64 136))) (some (.const (.int .i64 148))) none ∧ o.dst = some 82 := ⟨_, rfl, rfl, rfl⟩
theorem qdst8 : dstAt refOps2 8 = some 83 := rfl
theorem qop8 : ∃ o, refOps2[8]? = some o ∧ o.op = .move (.tmp 0) ∧ o.dst = some 83 := ⟨_, rfl, rfl, rfl⟩
theorem qdst9 : dstAt refOps2 9 = some 84 := rfl
theorem qop9 : ∃ o, refOps2[9]? = some o ∧ o.op = .slice 22 (.tmp 83) (some (.const (.int .i64 124))) (some (.const (.int .i64 136))) none ∧ o.dst = some 84 := ⟨_, rfl, rfl, rfl⟩
theorem qdst10 : dstAt refOps2 10 = some 85 := rfl
theorem qop10 : ∃ o, refOps2[10]? = some o ∧ o.op = .buildSlice 108 5 #[(0, .tmp 76), (1, .tmp 78), (2, .tmp 80), (3, .tmp 82), (4, .tmp 84)] ∧ o.dst = some 85 := ⟨_, rfl, rfl, rfl⟩
theorem qdst11 : dstAt refOps2 11 = some 10 := rfl
theorem qop11 : ∃ o, refOps2[11]? = some o ∧ o.op = .assign (.tmp 85) ∧ o.dst = some 10 := ⟨_, rfl, rfl, rfl⟩
theorem build5 (w : World) (p1 p2 p3 p4 p5 : Option Addr) (n1 c1 n2 c2 n3 c3 n4 c4 n5 c5 : Nat) : (Instr.buildSlice 108 5 #[(0, .slice p1 n1 c1), (1, .slice p2 n2 c2), (2, .slice p3 n3 c3), (3, .slice p4 n4 c4), (4, .slice p5 n5 c5)]).run Tryz.prog w = .ok (.slice (some ⟨w.heap.size, 0, none⟩) 5 5) (w.alloc (.cells #[.slice p1 n1 c1, .slice p2 n2 c2, .slice p3 n3 c3, .slice p4 n4 c4, .slice p5 n5 c5] 22)) := by kernel_rfl
set_option maxHeartbeats 1000000 in
theorem ref_region2 {Q' : Exit → Act → World → Prop} {a0 : Act} {w3 : World} (g : Nat) (S S1 S2 S3 S4 S5 : Value)
    (hsz : 118 ≤ a0.tmps.size) (h0 : a0.eval (.tmp 0) = S) (hg : g = w3.heap.size)
    (hs1 : ∀ w, (Instr.sliceAt 22 S (some (.int .i64 100)) (some (.int .i64 108)) none).run Tryz.prog w = .ok S1 w)
    (hs2 : ∀ w, (Instr.sliceAt 22 S (some (.int .i64 108)) (some (.int .i64 116)) none).run Tryz.prog w = .ok S2 w)
    (hs3 : ∀ w, (Instr.sliceAt 22 S (some (.int .i64 116)) (some (.int .i64 124)) none).run Tryz.prog w = .ok S3 w)
    (hs4 : ∀ w, (Instr.sliceAt 22 S (some (.int .i64 136)) (some (.int .i64 148)) none).run Tryz.prog w = .ok S4 w)
    (hs5 : ∀ w, (Instr.sliceAt 22 S (some (.int .i64 124)) (some (.int .i64 136)) none).run Tryz.prog w = .ok S5 w)
    (hb : ∀ w, (Instr.buildSlice 108 5 #[(0, S1), (1, S2), (2, S3), (3, S4), (4, S5)]).run Tryz.prog w = .ok (.slice (some ⟨w.heap.size, 0, none⟩) 5 5) (w.alloc (.cells #[S1, S2, S3, S4, S5] 22)))
    (hQ : ∀ w', w'.heap[g]? = some (.cells #[S1, S2, S3, S4, S5] 22 (0, 0)) → Kept noneB w3 w' → Q' .normal ((((((((((((a0.put (some 75) (S)).put (some 76) (S1)).put (some 77) (S)).put (some 78) (S2)).put (some 79) (S)).put (some 80) (S3)).put (some 81) (S)).put (some 82) (S4)).put (some 83) (S)).put (some 84) (S5)).put (some 85) (.slice (some ⟨g, 0, none⟩) 5 5)).put (some 10) (.slice (some ⟨g, 0, none⟩) 5 5)) w') :
    wpAny Tryz.prog .any refOps2 Q' refOps2.size (Array.replicate refOps2.size false) a0 w3.drew := by
  have no : ∀ j, (Array.replicate refOps2.size false).getD j false = false := fun j => by
    rw [Array.getD_eq_getD_getElem?, Array.getElem?_replicate]
    split <;> rfl
  obtain ⟨C, hC⟩ : ∃ C : Array Value, C = #[S1, S2, S3, S4, S5] := ⟨_, rfl⟩
  rw [← hC] at hQ hb
  refine wpAny_vals (rV2 S S1 S2 S3 S4 S5 g) a0 (fun listed w => Kept noneB w3 w ∧ (listed.getD 10 false = false → w.heap.size = g) ∧ (listed.getD 10 false = true → w.heap[g]? = some (.cells C 22 (0, 0)))) 118 ref2_apart hsz ?_ ?_
    ⟨(Kept.refl _ w3).drew, fun _ => hg.symm, fun h => (by rw [no] at h; cases h)⟩
  · intro listed a w j o h ho hun hdep
    have hlt := lt_of_unlisted hun
    obtain ⟨hk, hh1, hh2⟩ := h.wd
    have keep : j ≠ 10 → Kept noneB w3 w ∧ ((listed.setIfInBounds j true).getD 10 false = false → w.heap.size = g) ∧ ((listed.setIfInBounds j true).getD 10 false = true → w.heap[g]? = some (.cells C 22 (0, 0))) := fun hj => by
      rw [listed_get hlt, if_neg (Ne.symm hj)]
      exact ⟨hk, hh1, hh2⟩
    have hj12 : j < 12 := by
      have := (Array.getElem?_eq_some_iff.1 ho).1
      rwa [ref2_size] at this
    have same : ∀ {j' : Nat} {o' : Oper}, refOps2[j']? = some o' → j = j' → o' = o := fun {j' o'} h' e => by subst e; exact Option.some.inj (h'.symm.trans ho)
    rcases (show j = 0 ∨ j = 1 ∨ j = 2 ∨ j = 3 ∨ j = 4 ∨ j = 5 ∨ j = 6 ∨ j = 7 ∨ j = 8 ∨ j = 9 ∨ j = 10 ∨ j = 11 by omega) with rfl | rfl | rfl | rfl | rfl | rfl | rfl | rfl | rfl | rfl | rfl | rfl
    · obtain ⟨o', ho', hop, hdst⟩ := qop0
      obtain rfl := same ho' rfl
      exact wp_move _ _ (Or.inl hop) ((h.old (t := 0) (by kernel_rfl)).trans h0) ⟨rfl, (keep (by decide))⟩
    · obtain ⟨o', ho', hop, hdst⟩ := qop1
      obtain rfl := same ho' rfl
      have e : a.eval (.tmp 75) = S := (h.get ho hdep (i := 0) (d := 75) (by kernel_rfl) rfl)
      refine wp_run _ ?_ ⟨rfl, (keep (by decide))⟩
      have q := hs1 w
      simp [execOp, hop, e, evalC, q, Result.andThen, rV2]
    · obtain ⟨o', ho', hop, hdst⟩ := qop2
      obtain rfl := same ho' rfl
      exact wp_move _ _ (Or.inl hop) ((h.old (t := 0) (by kernel_rfl)).trans h0) ⟨rfl, (keep (by decide))⟩
    · obtain ⟨o', ho', hop, hdst⟩ := qop3
      obtain rfl := same ho' rfl
      have e : a.eval (.tmp 77) = S := (h.get ho hdep (i := 2) (d := 77) (by kernel_rfl) rfl)
      refine wp_run _ ?_ ⟨rfl, (keep (by decide))⟩
      have q := hs2 w
      simp [execOp, hop, e, evalC, q, Result.andThen, rV2]
    · obtain ⟨o', ho', hop, hdst⟩ := qop4
      obtain rfl := same ho' rfl
      exact wp_move _ _ (Or.inl hop) ((h.old (t := 0) (by kernel_rfl)).trans h0) ⟨rfl, (keep (by decide))⟩
    · obtain ⟨o', ho', hop, hdst⟩ := qop5
      obtain rfl := same ho' rfl
      have e : a.eval (.tmp 79) = S := (h.get ho hdep (i := 4) (d := 79) (by kernel_rfl) rfl)
      refine wp_run _ ?_ ⟨rfl, (keep (by decide))⟩
      have q := hs3 w
      simp [execOp, hop, e, evalC, q, Result.andThen, rV2]
    · obtain ⟨o', ho', hop, hdst⟩ := qop6
      obtain rfl := same ho' rfl
      exact wp_move _ _ (Or.inl hop) ((h.old (t := 0) (by kernel_rfl)).trans h0) ⟨rfl, (keep (by decide))⟩
    · obtain ⟨o', ho', hop, hdst⟩ := qop7
      obtain rfl := same ho' rfl
      have e : a.eval (.tmp 81) = S := (h.get ho hdep (i := 6) (d := 81) (by kernel_rfl) rfl)
      refine wp_run _ ?_ ⟨rfl, (keep (by decide))⟩
      have q := hs4 w
      simp [execOp, hop, e, evalC, q, Result.andThen, rV2]
    · obtain ⟨o', ho', hop, hdst⟩ := qop8
      obtain rfl := same ho' rfl
      exact wp_move _ _ (Or.inl hop) ((h.old (t := 0) (by kernel_rfl)).trans h0) ⟨rfl, (keep (by decide))⟩
    · obtain ⟨o', ho', hop, hdst⟩ := qop9
      obtain rfl := same ho' rfl
      have e : a.eval (.tmp 83) = S := (h.get ho hdep (i := 8) (d := 83) (by kernel_rfl) rfl)
      refine wp_run _ ?_ ⟨rfl, (keep (by decide))⟩
      have q := hs5 w
      simp [execOp, hop, e, evalC, q, Result.andThen, rV2]
    · obtain ⟨o', ho', hop, hdst⟩ := qop10
      obtain rfl := same ho' rfl
      have e0 : a.eval (.tmp 76) = S1 := (h.get ho hdep (i := 1) (d := 76) (by kernel_rfl) rfl)
      have e1 : a.eval (.tmp 78) = S2 := (h.get ho hdep (i := 3) (d := 78) (by kernel_rfl) rfl)
      have e2 : a.eval (.tmp 80) = S3 := (h.get ho hdep (i := 5) (d := 80) (by kernel_rfl) rfl)
      have e3 : a.eval (.tmp 82) = S4 := (h.get ho hdep (i := 7) (d := 82) (by kernel_rfl) rfl)
      have e4 : a.eval (.tmp 84) = S5 := (h.get ho hdep (i := 9) (d := 84) (by kernel_rfl) rfl)
      have q := hb w
      rw [hh1 (getD_flip hun)] at q
      have hr : (execOp a.eval o').run Tryz.prog w = .ok (.value (.slice (some ⟨g, 0, none⟩) 5 5)) (w.alloc (.cells C 22)) := by simp [execOp, hop, e0, e1, e2, e3, e4, q, Result.andThen]
      unfold Oper.wp
      rw [hr, Oper.upon_value]
      refine ⟨rfl, hk.alloc _, fun hx => ?_, fun _ => ?_⟩
      · rw [listed_get hlt, if_pos rfl] at hx
        cases hx
      · rw [← hh1 (getD_flip hun)]
        exact heap_alloc_new w _
    · obtain ⟨o', ho', hop, hdst⟩ := qop11
      obtain rfl := same ho' rfl
      have e : a.eval (.tmp 85) = .slice (some ⟨g, 0, none⟩) 5 5 := (h.get ho hdep (i := 10) (d := 85) (by kernel_rfl) rfl)
      exact wp_move _ _ (Or.inr hop) e ⟨rfl, (keep (by decide))⟩
  · intro listed a w h hall
    have all : ∀ j, j < 12 → listed.getD j false = true := fun j hj => hall j (by rw [ref2_size]; exact hj)
    obtain ⟨hk, _, hh⟩ := h.wd
    have hh := hh (all 10 (by omega))
    rw [done_putAll 118 ref2_apart hsz h hall, ref2_size]
    simp only [putAll, qdst0, qdst1, qdst2, qdst3, qdst4, qdst5, qdst6, qdst7, qdst8, qdst9, qdst10, qdst11]
    exact hQ w hh hk
end Go.Proofs.YtdjedimjhogdoaaGreatDoor.Head
end
section
namespace Go.Proofs.YtdjedimjhogdoaaGreatDoor.Head
open Go.ChangeShapes Go.WideShapes Go.ChangeAt Go.RowKit Go.Proofs.YtdjedimjhogdoaaGreatDoor.Base Go.Proofs.YtdjedimjhogdoaaGreatDoor.Byt Go.Proofs.YtdjedimjhogdoaaGreatDoor.Txt Go.Proofs.YtdjedimjhogdoaaGreatDoor.Hp Go.Proofs.YtdjedimjhogdoaaGreatDoor.Mp Go.Proofs.YtdjedimjhogdoaaGreatDoor.Fp Go.Proofs.YtdjedimjhogdoaaGreatDoor.Field Go.Lib
set_option linter.unusedVariables false
set_option maxRecDepth 100000

/-- what PutField leaves: its bytes, wherever they are -/
def PutS (r : Option (List Int)) (v : Value) (y : Bool) (w : World) : Prop :=
  (∃ l p c, r = some l ∧ y = true ∧ v = .slice p l.length c ∧ l.length ≤ c ∧ BAt w p l.length (bytesOf l)) ∨ (r = none ∧ y = false ∧ v = .slice none 0 0)
theorem rput_s (n wide : Int) (w : World) (w0 : (Lit.int .i64 n).wf = true) (w1 : (Lit.int .i64 wide).wf = true) :
    Calls Tryz.prog 46 #[.int .i64 n, .int .i64 wide] w fun e w' => ∃ v y, e = .returned (.tuple #[v, .bool y]) ∧ PutS (putF n wide) v y w' ∧ Kept noneB w w' := by
  refine (rput_any n wide w w0 w1).mono ?_
  rintro e w' ⟨hb, (⟨l, v, hl, rfl, hown⟩ | ⟨hl, rfl⟩)⟩
  · obtain ⟨p, c, rfl, hc, _, hbat, _⟩ := bat_of_own hown (putF_bd hl)
    exact ⟨_, true, rfl, Or.inl ⟨l, p, c, hl, rfl, rfl, hc, hbat⟩, Kept.of_below hb _⟩
  · exact ⟨_, false, rfl, Or.inr ⟨hl, rfl, rfl⟩, Kept.of_below hb _⟩
noncomputable def rputOps : Array Oper := regionAt Tryz.f26 18
def pV2 (A C : Value) (k : Int) (pa pc : Addr) (x z : Int) (vy : Value × Bool) : Nat → Value
  | 0 => A | 1 => .int .i64 k | 2 => .pointer (some pa) | 3 => .int .i64 x | 4 => C | 5 => .int .i64 k | 6 => .pointer (some pc) | 7 => .int .i64 z | 8 => .tuple #[vy.1, .bool vy.2] | 9 => .tuple #[vy.1, .bool vy.2] | 10 => vy.1 | 11 => .bool vy.2 | 12 => vy.1 | 13 => .bool vy.2 | _ => undef
theorem rput_size : rputOps.size = 14 := rfl
theorem rput_apart : apartG rputOps 152 = true := by kernel_rfl
theorem tdst0 : dstAt rputOps 0 = some 95 := rfl
theorem top0 : ∃ o, rputOps[0]? = some o ∧ o.op = .move (.tmp 10) ∧ o.dst = some 95 := ⟨_, rfl, rfl, rfl⟩
theorem tdst1 : dstAt rputOps 1 = some 96 := rfl
theorem top1 : ∃ o, rputOps[1]? = some o ∧ o.op = .move (.tmp 13) ∧ o.dst = some 96 := ⟨_, rfl, rfl, rfl⟩
theorem tdst2 : dstAt rputOps 2 = some 97 := rfl
theorem top2 : ∃ o, rputOps[2]? = some o ∧ o.op = .indexAddr 23 (.tmp 95) (.tmp 96) ∧ o.dst = some 97 := ⟨_, rfl, rfl, rfl⟩
theorem tdst3 : dstAt rputOps 3 = some 98 := rfl
theorem top3 : ∃ o, rputOps[3]? = some o ∧ o.op = .load 3 (.tmp 97) ∧ o.dst = some 98 := ⟨_, rfl, rfl, rfl⟩
theorem tdst4 : dstAt rputOps 4 = some 99 := rfl
theorem top4 : ∃ o, rputOps[4]? = some o ∧ o.op = .move (.tmp 12) ∧ o.dst = some 99 := ⟨_, rfl, rfl, rfl⟩
theorem tdst5 : dstAt rputOps 5 = some 100 := rfl
theorem top5 : ∃ o, rputOps[5]? = some o ∧ o.op = .move (.tmp 13) ∧ o.dst = some 100 := ⟨_, rfl, rfl, rfl⟩
theorem tdst6 : dstAt rputOps 6 = some 101 := rfl
theorem top6 : ∃ o, rputOps[6]? = some o ∧ o.op = .indexAddr 23 (.tmp 99) (.tmp 100) ∧ o.dst = some 101 := ⟨_, rfl, rfl, rfl⟩
theorem tdst7 : dstAt rputOps 7 = some 102 := rfl
theorem top7 : ∃ o, rputOps[7]? = some o ∧ o.op = .load 3 (.tmp 101) ∧ o.dst = some 102 := ⟨_, rfl, rfl, rfl⟩
theorem tdst8 : dstAt rputOps 8 = some 103 := rfl
theorem top8 : ∃ o, rputOps[8]? = some o ∧ o.op = .call { callee := .value (.func 46), args := #[.tmp 98, .tmp 102], argTypes := #[3, 3] } ∧ o.dst = some 103 := ⟨_, rfl, rfl, rfl⟩
theorem tdst9 : dstAt rputOps 9 = some 94 := rfl
theorem top9 : ∃ o, rputOps[9]? = some o ∧ o.op = .move (.tmp 103) ∧ o.dst = some 94 := ⟨_, rfl, rfl, rfl⟩
theorem tdst10 : dstAt rputOps 10 = some 104 := rfl
theorem top10 : ∃ o, rputOps[10]? = some o ∧ o.op = .extract (.tmp 94) 0 ∧ o.dst = some 104 := ⟨_, rfl, rfl, rfl⟩
theorem tdst11 : dstAt rputOps 11 = some 105 := rfl
theorem top11 : ∃ o, rputOps[11]? = some o ∧ o.op = .extract (.tmp 94) 1 ∧ o.dst = some 105 := ⟨_, rfl, rfl, rfl⟩
theorem tdst12 : dstAt rputOps 12 = some 14 := rfl
theorem top12 : ∃ o, rputOps[12]? = some o ∧ o.op = .assign (.tmp 104) ∧ o.dst = some 14 := ⟨_, rfl, rfl, rfl⟩
theorem tdst13 : dstAt rputOps 13 = some 15 := rfl
theorem top13 : ∃ o, rputOps[13]? = some o ∧ o.op = .assign (.tmp 105) ∧ o.dst = some 15 := ⟨_, rfl, rfl, rfl⟩
theorem rput_behind : ∀ j, 8 < j → j < 14 → hasDep rputOps j 8 = true ∨ hasDep rputOps j 9 = true ∨ hasDep rputOps j 10 = true ∨ hasDep rputOps j 11 = true := by
  intro j h1 h2
  rcases (show j = 9 ∨ j = 10 ∨ j = 11 ∨ j = 12 ∨ j = 13 by omega) with rfl | rfl | rfl | rfl | rfl
  · exact Or.inl (by kernel_rfl)
  · exact Or.inr (Or.inl (by kernel_rfl))
  · exact Or.inr (Or.inl (by kernel_rfl))
  · exact Or.inr (Or.inr (Or.inl (by kernel_rfl)))
  · exact Or.inr (Or.inr (Or.inr (by kernel_rfl)))
set_option maxHeartbeats 1000000 in
theorem rput_region {Q' : Exit → Act → World → Prop} {a0 : Act} {w3 : World} (A C : Value) (k : Int) (pa pc : Addr) (x z : Int) (R : Value → Bool → World → Prop)
    (hsz : 152 ≤ a0.tmps.size) (h10 : a0.eval (.tmp 10) = A) (h12 : a0.eval (.tmp 12) = C) (h13 : a0.eval (.tmp 13) = .int .i64 k)
    (hia : ∀ w, (Instr.indexAt 23 A (.int .i64 k)).run Tryz.prog w = .ok (.pointer (some pa)) w)
    (hic : ∀ w, (Instr.indexAt 23 C (.int .i64 k)).run Tryz.prog w = .ok (.pointer (some pc)) w)
    (hla : ∀ w, Kept noneB w3 w → (Instr.loadAt 3 (.pointer (some pa))).run Tryz.prog w = .ok (.int .i64 x) w)
    (hlc : ∀ w, Kept noneB w3 w → (Instr.loadAt 3 (.pointer (some pc))).run Tryz.prog w = .ok (.int .i64 z) w)
    (hcall : ∀ w, Kept noneB w3 w → Calls Tryz.prog 46 #[.int .i64 x, .int .i64 z] w fun e w' => ∃ v y, e = .returned (.tuple #[v, .bool y]) ∧ R v y w' ∧ Kept noneB w w')
    (hQ : ∀ v y w', R v y w' → Kept noneB w3 w' → Q' .normal ((((((((((((((a0.put (some 95) (A)).put (some 96) (.int .i64 k)).put (some 97) (.pointer (some pa))).put (some 98) (.int .i64 x)).put (some 99) (C)).put (some 100) (.int .i64 k)).put (some 101) (.pointer (some pc))).put (some 102) (.int .i64 z)).put (some 103) (.tuple #[v, .bool y])).put (some 94) (.tuple #[v, .bool y])).put (some 104) (v)).put (some 105) (.bool y)).put (some 14) (v)).put (some 15) (.bool y)) w') :
    wpAny Tryz.prog .any rputOps Q' rputOps.size (Array.replicate rputOps.size false) a0 w3.drew := by
  have no : ∀ j, (Array.replicate rputOps.size false).getD j false = false := fun j => by
    rw [Array.getD_eq_getD_getElem?, Array.getElem?_replicate]
    split <;> rfl
  refine wpAny_ghost (Γ := Value × Bool) (pV2 A C k pa pc x z) (undef, false) a0 (fun vy listed w => Kept noneB w3 w ∧ (listed.getD 8 false = true → R vy.1 vy.2 w) ∧ (∀ j, 8 < j → j < 14 → listed.getD j false = true → listed.getD 8 false = true)) 152 rput_apart hsz ?_ ?_
    ⟨(Kept.refl _ w3).drew, fun h => (by rw [no] at h; cases h), fun j _ _ h => (by rw [no] at h; cases h)⟩
  · intro vy listed a w j o h ho hun hdep
    have hlt := lt_of_unlisted hun
    obtain ⟨hk, hh1, hh2⟩ := h.wd
    have hj14 : j < 14 := by
      have := (Array.getElem?_eq_some_iff.1 ho).1
      rwa [rput_size] at this
    have keep : j ≠ 8 → ∃ γ', (∀ i, listed.getD i false = true → pV2 A C k pa pc x z γ' i = pV2 A C k pa pc x z vy i) ∧ a.put o.dst (pV2 A C k pa pc x z vy j) = a.put o.dst (pV2 A C k pa pc x z γ' j) ∧ (Kept noneB w3 w ∧ ((listed.setIfInBounds j true).getD 8 false = true → R γ'.1 γ'.2 w) ∧ (∀ j', 8 < j' → j' < 14 → (listed.setIfInBounds j true).getD j' false = true → (listed.setIfInBounds j true).getD 8 false = true)) := fun hj => by
      refine ⟨vy, fun _ _ => rfl, rfl, hk, ?_, fun j' h1 h2 h3 => ?_⟩
      · rw [listed_get hlt, if_neg (Ne.symm hj)]
        exact hh1
      · rw [listed_get hlt, if_neg (Ne.symm hj)]
        rw [listed_get hlt] at h3
        by_cases hjj : j' = j
        · subst hjj
          rcases rput_behind j' h1 h2 with hd | hd | hd | hd
          · exact dep_listed ho hdep hd
          · exact hh2 9 (by omega) (by omega) (dep_listed ho hdep hd)
          · exact hh2 10 (by omega) (by omega) (dep_listed ho hdep hd)
          · exact hh2 11 (by omega) (by omega) (dep_listed ho hdep hd)
        · rw [if_neg hjj] at h3
          exact hh2 j' h1 h2 h3
    have same : ∀ {j' : Nat} {o' : Oper}, rputOps[j']? = some o' → j = j' → o' = o := fun {j' o'} h' e => by subst e; exact Option.some.inj (h'.symm.trans ho)
    rcases (show j = 0 ∨ j = 1 ∨ j = 2 ∨ j = 3 ∨ j = 4 ∨ j = 5 ∨ j = 6 ∨ j = 7 ∨ j = 8 ∨ j = 9 ∨ j = 10 ∨ j = 11 ∨ j = 12 ∨ j = 13 by omega) with rfl | rfl | rfl | rfl | rfl | rfl | rfl | rfl | rfl | rfl | rfl | rfl | rfl | rfl
    · obtain ⟨o', ho', hop, hdst⟩ := top0
      obtain rfl := same ho' rfl
      exact wp_move _ _ (Or.inl hop) ((h.old (t := 10) (by kernel_rfl)).trans h10) (keep (by decide))
    · obtain ⟨o', ho', hop, hdst⟩ := top1
      obtain rfl := same ho' rfl
      exact wp_move _ _ (Or.inl hop) ((h.old (t := 13) (by kernel_rfl)).trans h13) (keep (by decide))
    · obtain ⟨o', ho', hop, hdst⟩ := top2
      obtain rfl := same ho' rfl
      have e0 : a.eval (.tmp 95) = A := (h.get ho hdep (i := 0) (d := 95) (by kernel_rfl) rfl)
      have e1 : a.eval (.tmp 96) = .int .i64 k := (h.get ho hdep (i := 1) (d := 96) (by kernel_rfl) rfl)
      refine wp_run _ ?_ (keep (by decide))
      have q := hia w
      simp [execOp, hop, e0, e1, q, Result.andThen, pV2]
    · obtain ⟨o', ho', hop, hdst⟩ := top3
      obtain rfl := same ho' rfl
      have e : a.eval (.tmp 97) = .pointer (some pa) := (h.get ho hdep (i := 2) (d := 97) (by kernel_rfl) rfl)
      refine wp_run _ ?_ (keep (by decide))
      have q := hla w hk
      simp [execOp, hop, e, q, Result.andThen, pV2]
    · obtain ⟨o', ho', hop, hdst⟩ := top4
      obtain rfl := same ho' rfl
      exact wp_move _ _ (Or.inl hop) ((h.old (t := 12) (by kernel_rfl)).trans h12) (keep (by decide))
    · obtain ⟨o', ho', hop, hdst⟩ := top5
      obtain rfl := same ho' rfl
      exact wp_move _ _ (Or.inl hop) ((h.old (t := 13) (by kernel_rfl)).trans h13) (keep (by decide))
    · obtain ⟨o', ho', hop, hdst⟩ := top6
      obtain rfl := same ho' rfl
      have e0 : a.eval (.tmp 99) = C := (h.get ho hdep (i := 4) (d := 99) (by kernel_rfl) rfl)
      have e1 : a.eval (.tmp 100) = .int .i64 k := (h.get ho hdep (i := 5) (d := 100) (by kernel_rfl) rfl)
      refine wp_run _ ?_ (keep (by decide))
      have q := hic w
      simp [execOp, hop, e0, e1, q, Result.andThen, pV2]
    · obtain ⟨o', ho', hop, hdst⟩ := top7
      obtain rfl := same ho' rfl
      have e : a.eval (.tmp 101) = .pointer (some pc) := (h.get ho hdep (i := 6) (d := 101) (by kernel_rfl) rfl)
      refine wp_run _ ?_ (keep (by decide))
      have q := hlc w hk
      simp [execOp, hop, e, q, Result.andThen, pV2]
    · obtain ⟨o', ho', hop, hdst⟩ := top8
      obtain rfl := same ho' rfl
      have e0 : a.eval (.tmp 98) = .int .i64 x := (h.get ho hdep (i := 3) (d := 98) (by kernel_rfl) rfl)
      have e1 : a.eval (.tmp 102) = .int .i64 z := (h.get ho hdep (i := 7) (d := 102) (by kernel_rfl) rfl)
      have hno : ∀ j', 8 < j' → j' < 14 → listed.getD j' false = true → False := fun j' h1 h2 h3 => by
        have h4 := hh2 j' h1 h2 h3
        rw [getD_flip hun] at h4
        cases h4
      refine wp_callE _ _ _ hop #[.int .i64 x, .int .i64 z] (by simp [e0, e1]) (enters_of Tryz.func46 (by kernel_rfl) rfl) (fun v w' => ∃ u y, v = .tuple #[u, .bool y] ∧ R u y w' ∧ Kept noneB w w') ((hcall w hk).mono fun e w' ⟨u, y, he, hr, hk'⟩ => ⟨_, he, u, y, rfl, hr, hk'⟩) (fun v w' ⟨u, y, hv, hr, hk'⟩ => ⟨(u, y), fun i hi => ?_, by rw [hv]; rfl, hk.trans hk', fun _ => hr, fun j' h1 h2 h3 => by rw [listed_get hlt, if_pos rfl]⟩)
      have hi8 : i < 8 := by
        rcases Nat.lt_trichotomy i 8 with h1 | h1 | h1
        · exact h1
        · rw [h1, getD_flip hun] at hi; cases hi
        · by_cases h2 : i < 14
          · exact (hno i h1 h2 hi).elim
          · exfalso
            have hs := h.ls
            rw [rput_size] at hs
            rw [Array.getD_eq_getD_getElem?, Array.getElem?_eq_none (by omega)] at hi
            cases hi
      rcases (show i = 0 ∨ i = 1 ∨ i = 2 ∨ i = 3 ∨ i = 4 ∨ i = 5 ∨ i = 6 ∨ i = 7 by omega) with rfl | rfl | rfl | rfl | rfl | rfl | rfl | rfl <;> rfl
    · obtain ⟨o', ho', hop, hdst⟩ := top9
      obtain rfl := same ho' rfl
      have e : a.eval (.tmp 103) = .tuple #[vy.1, .bool vy.2] := (h.get ho hdep (i := 8) (d := 103) (by kernel_rfl) rfl)
      exact wp_move _ _ (Or.inl hop) e (keep (by decide))
    · obtain ⟨o', ho', hop, hdst⟩ := top10
      obtain rfl := same ho' rfl
      have e : a.eval (.tmp 94) = .tuple #[vy.1, .bool vy.2] := (h.get ho hdep (i := 9) (d := 94) (by kernel_rfl) rfl)
      refine wp_run _ ?_ (keep (by decide))
      generalize a.eval = ev at e ⊢
      simp [go_sem, execOp, hop, e, pV2]
    · obtain ⟨o', ho', hop, hdst⟩ := top11
      obtain rfl := same ho' rfl
      have e : a.eval (.tmp 94) = .tuple #[vy.1, .bool vy.2] := (h.get ho hdep (i := 9) (d := 94) (by kernel_rfl) rfl)
      refine wp_run _ ?_ (keep (by decide))
      generalize a.eval = ev at e ⊢
      simp [go_sem, execOp, hop, e, pV2]
    · obtain ⟨o', ho', hop, hdst⟩ := top12
      obtain rfl := same ho' rfl
      have e : a.eval (.tmp 104) = vy.1 := (h.get ho hdep (i := 10) (d := 104) (by kernel_rfl) rfl)
      exact wp_move _ _ (Or.inr hop) e (keep (by decide))
    · obtain ⟨o', ho', hop, hdst⟩ := top13
      obtain rfl := same ho' rfl
      have e : a.eval (.tmp 105) = .bool vy.2 := (h.get ho hdep (i := 11) (d := 105) (by kernel_rfl) rfl)
      exact wp_move _ _ (Or.inr hop) e (keep (by decide))
  · intro vy listed a w h hall
    obtain ⟨v, y⟩ := vy
    obtain ⟨hk, hh, _⟩ := h.wd
    have hR := hh (hall 8 (by rw [rput_size]; omega))
    rw [done_putAllG 152 rput_apart hsz h hall, rput_size]
    simp only [putAll, tdst0, tdst1, tdst2, tdst3, tdst4, tdst5, tdst6, tdst7, tdst8, tdst9, tdst10, tdst11, tdst12, tdst13]
    exact hQ v y w hR hk
end Go.Proofs.YtdjedimjhogdoaaGreatDoor.Head
end
section
namespace Go.Proofs.YtdjedimjhogdoaaGreatDoor.Head
open Go.ChangeShapes Go.WideShapes Go.ChangeAt Go.RowKit Go.Proofs.YtdjedimjhogdoaaGreatDoor.Base Go.Proofs.YtdjedimjhogdoaaGreatDoor.Byt Go.Proofs.YtdjedimjhogdoaaGreatDoor.Txt Go.Proofs.YtdjedimjhogdoaaGreatDoor.Hp Go.Proofs.YtdjedimjhogdoaaGreatDoor.Mp Go.Proofs.YtdjedimjhogdoaaGreatDoor.Fp Go.Proofs.YtdjedimjhogdoaaGreatDoor.Field Go.Lib
set_option linter.unusedVariables false
set_option maxRecDepth 100000

/-- no zero among the first k -/
def noZ (l : List UInt8) (k : Nat) : Bool := !(l.take k).contains 0
theorem noZ_zero (l : List UInt8) : noZ l 0 = true := rfl
theorem noZ_succ {l : List UInt8} {k : Nat} (hk : k < l.length) : noZ l (k + 1) = (noZ l k && l.getD k 0 != 0) := by
  unfold noZ
  rw [List.take_add_one, List.getElem?_eq_getElem hk]
  have e : l.getD k 0 = l[k] := by simp [List.getD, hk]
  rw [e]
  simp only [Option.toList_some, List.contains_append, Bool.not_or]
  congr 1
  simp only [List.contains_cons, List.contains_nil, Bool.or_false, bne]
  rw [show ((0 : UInt8) == l[k]) = (l[k] == 0) from Bool.beq_comm]
theorem noZ_all (l : List UInt8) : noZ l l.length = !l.contains 0 := by unfold noZ; rw [List.take_length]
/-- the numbers' order in the document's own text, and where its loop is -/
def ordP : Nat → Nat
  | 0 => 1 | 1 => 2 | 2 => 3 | 3 => 5 | _ => 4
theorem ordP_in {k : Nat} (hk : k < 5) : 1 ≤ ordP k ∧ ordP k ≤ 5 ∧ atF (ordP k) + wideF (ordP k) ≤ 512 ∧ 2 ≤ wideF (ordP k) ∧ wideF (ordP k) ≤ 12 := by
  rcases (show k = 0 ∨ k = 1 ∨ k = 2 ∨ k = 3 ∨ k = 4 by omega) with rfl | rfl | rfl | rfl | rfl <;> decide
theorem ordP_all {P : Nat → Prop} (h : ∀ k, k < 5 → P (ordP k)) : ∀ i, 1 ≤ i → i ≤ 5 → P i := fun i h1 h2 => by
  rcases (show i = 1 ∨ i = 2 ∨ i = 3 ∨ i = 4 ∨ i = 5 by omega) with rfl | rfl | rfl | rfl | rfl
  · exact h 0 (by omega)
  · exact h 1 (by omega)
  · exact h 2 (by omega)
  · exact h 4 (by omega)
  · exact h 3 (by omega)
theorem ordP_inj {j k : Nat} (hj : j < 5) (hk : k < 5) (h : ordP j = ordP k) : j = k := by
  rcases (show j = 0 ∨ j = 1 ∨ j = 2 ∨ j = 3 ∨ j = 4 by omega) with rfl | rfl | rfl | rfl | rfl <;>
  rcases (show k = 0 ∨ k = 1 ∨ k = 2 ∨ k = 3 ∨ k = 4 by omega) with rfl | rfl | rfl | rfl | rfl <;> first | rfl | (exfalso; revert h; decide)
theorem numC_get (h : HeadV) {k : Nat} (hk : k < 5) : (#[Value.int .i64 h.mode, .int .i64 h.uid, .int .i64 h.gid, .int .i64 h.time, .int .i64 h.size] : Array Value)[k]? = some (.int .i64 (numH h (ordP k))) := by
  rcases (show k = 0 ∨ k = 1 ∨ k = 2 ∨ k = 3 ∨ k = 4 by omega) with rfl | rfl | rfl | rfl | rfl <;> rfl
theorem frC_get {k : Nat} (hk : k < 5) : (#[Value.int .i64 100, .int .i64 108, .int .i64 116, .int .i64 136, .int .i64 124] : Array Value)[k]? = some (.int .i64 (atF (ordP k))) := by
  rcases (show k = 0 ∨ k = 1 ∨ k = 2 ∨ k = 3 ∨ k = 4 by omega) with rfl | rfl | rfl | rfl | rfl <;> rfl
theorem wdC_get {k : Nat} (hk : k < 5) : (#[Value.int .i64 8, .int .i64 8, .int .i64 8, .int .i64 12, .int .i64 12] : Array Value)[k]? = some (.int .i64 (wideF (ordP k))) := by
  rcases (show k = 0 ∨ k = 1 ∨ k = 2 ∨ k = 3 ∨ k = 4 by omega) with rfl | rfl | rfl | rfl | rfl <;> rfl
theorem index5 (b k : Nat) (hk : k < 5) (w : World) : (Instr.indexAt 23 (.slice (some ⟨b, 0, none⟩) 5 5) (.int .i64 (k : Int))).run Tryz.prog w = .ok (.pointer (some ⟨b, k, none⟩)) w := by
  have fl := Tryz.underlying23
  have f5 := Tryz.sizeOf3
  have h1 : (k : Int) < 5 := by omega
  go_simp
theorem load5 (w : World) (a : Addr) (k : Int) (h : w.cell? a = some (.int .i64 k)) : (Instr.loadAt 3 (.pointer (some a))).run Tryz.prog w = .ok (.int .i64 k) w := by
  go_simp
def ownK (h : HeadV) : Nat → Nat → List UInt8
  | 0 => zeroO
  | k + 1 => upd (ownK h k) (ordP k) (numB h (ordP k))
theorem ownK_fits {h : HeadV} : ∀ {k : Nat}, (∀ j, j < k → (putF (numH h (ordP j)) (wideF (ordP j))).isSome = true) → Fits (ownK h k)
  | 0, _ => zeroO_fits
  | k + 1, hs => (ownK_fits fun j hj => hs j (by omega)).upd (numB_length (hs k (by omega)))
theorem ownK_other {h : HeadV} {i : Nat} : ∀ {k : Nat}, (∀ j, j < k → ordP j ≠ i) → ownK h k i = zeroO i
  | 0, _ => rfl
  | k + 1, hs => by rw [ownK, upd_other _ _ (fun e => hs k (by omega) e.symm)]; exact ownK_other fun j hj => hs j (by omega)
theorem copy_step {w : World} {g : Nat} {own : Nat → List UInt8} (hF : Fits own) {i : Nat} (hi : i < 11) {cs : List UInt8} (hl : cs.length ≤ wideF i) (hr : RowB w g (splice (blockA own) (atF i) cs)) : RowB w g (blockA (upd own i (putInto (own i) cs))) := by
  rw [splice_blockA hF hi hl] at hr
  exact hr
theorem copy_fits {own : Nat → List UInt8} (hF : Fits own) {i : Nat} {cs : List UInt8} (hl : cs.length ≤ wideF i) : Fits (upd own i (putInto (own i) cs)) :=
  hF.upd (by rw [putInto_length (by rw [hF i]; exact hl)]; exact hF i)
theorem getD_set (L : List UInt8) (i j : Nat) (x : UInt8) (hi : i < L.length) : (L.set i x).getD j 0 = if i = j then x else L.getD j 0 := by
  simp only [List.getD, List.getElem?_set]
  by_cases h : i = j
  · subst h; simp [hi]
  · simp [h]
theorem set_splice (L : List UInt8) (i : Nat) (x : UInt8) (h : i < L.length) : L.set i x = splice L i [x] := by
  refine getD_ext (by rw [List.length_set, length_splice _ _ _ (by simp; omega)]) fun j _ => ?_
  rw [getD_set _ _ _ _ h, splice_get _ _ _ _ (by simp; omega)]
  by_cases hj : i = j
  · subst hj; simp
  · rw [if_neg hj, if_neg (by simp; omega)]
theorem splice_snoc (L cs : List UInt8) (off : Nat) (x : UInt8) (h : off + cs.length + 1 ≤ L.length) : (splice L off cs).set (off + cs.length) x = splice L off (cs ++ [x]) := by
  have h0 : (splice L off cs).length = L.length := length_splice _ _ _ (by omega)
  refine getD_ext (by rw [List.length_set, h0, length_splice _ _ _ (by simp; omega)]) fun j _ => ?_
  rw [getD_set _ _ _ _ (by rw [h0]; omega), splice_get _ _ _ _ (by omega), splice_get _ _ _ _ (by simp; omega)]
  by_cases hj : off + cs.length = j
  · subst hj
    rw [if_pos rfl, if_pos (by simp)]
    simp [List.getD]
  · rw [if_neg hj]
    by_cases hj1 : off ≤ j ∧ j < off + cs.length
    · rw [if_pos hj1, if_pos (by simp; omega)]
      simp only [List.getD]
      rw [List.getElem?_append_left (by omega)]
    · rw [if_neg hj1, if_neg (by simp; omega)]
/-- what the document lays, one behind the other -/
def finalO (h : HeadV) (p s : List UInt8) : Nat → List UInt8 :=
  let a := ownK h 5
  let b := upd a 0 (putInto (a 0) s)
  let c := upd b 10 (putInto (b 10) p)
  let d := upd c 8 (putInto (c 8) h.link)
  let e := upd d 9 (putInto (d 9) ustarB)
  upd e 7 (putInto (e 7) [h.kind])
theorem ownK_field (h : HeadV) : ownK h 5 0 = zeroO 0 ∧ ownK h 5 6 = zeroO 6 ∧ ownK h 5 7 = zeroO 7 ∧ ownK h 5 8 = zeroO 8 ∧ ownK h 5 9 = zeroO 9 ∧ ownK h 5 10 = zeroO 10 ∧ ∀ i, 1 ≤ i → i ≤ 5 → ownK h 5 i = numB h i := by
  refine ⟨rfl, rfl, rfl, rfl, rfl, rfl, fun i h1 h2 => ?_⟩
  rcases (show i = 1 ∨ i = 2 ∨ i = 3 ∨ i = 4 ∨ i = 5 by omega) with rfl | rfl | rfl | rfl | rfl <;> rfl
theorem final_own (h : HeadV) (p s : List UInt8) (hF : Fits (ownK h 5)) (hs : s.length ≤ 100) (hp : p.length ≤ 155) (hl : h.link.length ≤ 100) (hn : numsOk h = true) : finalO h p s = own1 h p s := by
  obtain ⟨k0, k6, k7, k8, k9, k10, k15⟩ := ownK_field h
  obtain ⟨e0, e6, e7, e8, e9, e10, e15⟩ := own1_field h p s
  have hf : Fits (finalO h p s) := by
    unfold finalO
    exact copy_fits (copy_fits (copy_fits (copy_fits (copy_fits hF (i := 0) hs) (i := 10) hp) (i := 8) hl) (i := 9) (show ustarB.length ≤ wideF 9 by decide)) (i := 7) (show 1 ≤ wideF 7 by decide)
  refine fits_ext hf (own1_fits hs hp hl hn) fun i hi => ?_
  have z : ∀ j, zeroO j = List.replicate (wideF j) 0 := fun _ => rfl
  rcases cases11 hi with rfl | rfl | rfl | rfl | rfl | rfl | rfl | rfl | rfl | rfl | rfl
  · rw [e0, ← putInto_zero]
    show putInto (ownK h 5 0) s = _
    rw [k0]; rfl
  · rw [e15 1 (by omega) (by omega)]; exact k15 1 (by omega) (by omega)
  · rw [e15 2 (by omega) (by omega)]; exact k15 2 (by omega) (by omega)
  · rw [e15 3 (by omega) (by omega)]; exact k15 3 (by omega) (by omega)
  · rw [e15 4 (by omega) (by omega)]; exact k15 4 (by omega) (by omega)
  · rw [e15 5 (by omega) (by omega)]; exact k15 5 (by omega) (by omega)
  · rw [e6]; exact k6
  · rw [e7]
    show putInto (ownK h 5 7) [h.kind] = _
    rw [k7]; rfl
  · rw [e8, ← putInto_zero]
    show putInto (ownK h 5 8) h.link = _
    rw [k8]; rfl
  · rw [e9]
    show putInto (ownK h 5 9) ustarB = _
    rw [k9]; rfl
  · rw [e10, ← putInto_zero]
    show putInto (ownK h 5 10) p = _
    rw [k10]; rfl
set_option maxHeartbeats 8000000 in
theorem rputH_any (h : HeadV) (hwf : ∀ i, (Lit.int .i64 (numH h i)).wf = true) (hnl : h.name.length ≤ 140737488351232) (hll : h.link.length ≤ 140737488351232) (w : World) :
    Calls Tryz.prog 26 #[.agg #[.string (str h.name), .string (str h.link), .int .u8 (h.kind.toNat : Int), .int .i64 h.mode, .int .i64 h.uid, .int .i64 h.gid, .int .i64 h.time, .int .i64 h.size, .bool h.gnu]] w (PutHPost w (putR h)) := by
  obtain ⟨nm, hnm⟩ : ∃ nm, nm = str h.name := ⟨_, rfl⟩
  obtain ⟨ln, hln⟩ : ∃ ln, ln = str h.link := ⟨_, rfl⟩
  obtain ⟨kd, hkd⟩ : ∃ kd : Int, kd = (h.kind.toNat : Int) := ⟨_, rfl⟩
  have HNM := Lib.hid hnm
  have HND : Hid (nm.data.toList = h.name) := Lib.hid (by rw [hnm, str_data])
  have HLD : Hid (ln.data.toList = h.link) := Lib.hid (by rw [hln, str_data])
  have HNS : Hid (nm.size = h.name.length) := Lib.hid (by rw [hnm, str_size])
  have HLS : Hid (ln.size = h.link.length) := Lib.hid (by rw [hln, str_size])
  have hnz : nm.size ≤ 140737488351232 := by rw [HNS.out]; exact hnl
  have hlz : ln.size ≤ 140737488351232 := by rw [HLS.out]; exact hll
  have HKV := Lib.hid hkd
  rw [← hnm, ← hln, ← hkd]
  have HWF := Lib.hid hwf
  obtain ⟨i0, hi0, hz0, hz1, hz2⟩ := info_parts infoByte
  have HIN := Lib.hid hi0
  have HZ0 := Lib.hid hz0
  have HZ1 := Lib.hid hz1
  have HZ2 := Lib.hid hz2
  clear hi0 hz0 hz1 hz2
  obtain ⟨gb, hgb⟩ : ∃ gb, gb = w.heap.size := ⟨_, rfl⟩
  obtain ⟨w0, hw0⟩ : ∃ w0, w0 = w.alloc (.cells #[.string nm, .string ln, .int .u8 kd, .int .i64 h.mode, .int .i64 h.uid, .int .i64 h.gid, .int .i64 h.time, .int .i64 h.size, .bool h.gnu] 57) := ⟨_, rfl⟩
  have HW : Hid (Kept noneB w w0) := Lib.hid (by rw [hw0]; exact (Kept.refl _ _).alloc _)
  have HB0 : Hid (w0.heap[gb]? = some (.cells #[.string nm, .string ln, .int .u8 kd, .int .i64 h.mode, .int .i64 h.uid, .int .i64 h.gid, .int .i64 h.time, .int .i64 h.size, .bool h.gnu] 57 (0, 0))) := Lib.hid (by rw [hw0, hgb]; exact heap_alloc_new _ _)
  have HGB : Hid (w.heap.size ≤ gb) := Lib.hid (by omega)
  clear hwf hnm hln hkd hnl hll
  go_enter Tryz.func26, Tryz.ntmps26
  go_wp2_with fail
  rw [← hw0, ← hgb]
  clear hw0 hgb
  refine (rcut_any nm w0 hnz).mono ?_
  rintro e w1 ⟨rfl, hk1⟩
  rw [HND.out]
  have HK1 := Lib.hid (HW.out.trans hk1)
  have c1 := cellsAt (hk1.some_ HB0.out id)
  have HB1 := Lib.hid (hk1.some_ HB0.out id)
  clear hk1
  cases hcut : cutR h.name with
  | none =>
    rw [cutV_none hcut]
    have HR := Lib.hid (putR_cut hcut)
    clear hcut
    go_wp2
    go_ret2
    exact ⟨HK1.out, Or.inr ⟨HR.out, rfl⟩⟩
  | some ps =>
    obtain ⟨p, s⟩ := ps
    rw [cutV_some hcut]
    have HCUT := Lib.hid hcut
    have HSP := Lib.hid (cutR_spec hcut)
    clear hcut
    have bad : badH h = true → putR h = none := putR_bad
    have HBAD := Lib.hid bad
    clear bad
    by_cases hlk : 100 < ln.size
    · have HR : Hid (putR h = none) := Lib.hid (HBAD.out (by
        have h1 : 100 < h.link.length := by rw [← HLS.out]; exact hlk
        unfold badH; simp [h1]))
      go_wp2
      go_ret2
      exact ⟨HK1.out, Or.inr ⟨HR.out, rfl⟩⟩
    · cases hgn : h.gnu with
      | true =>
        have HR : Hid (putR h = none) := Lib.hid (HBAD.out (by unfold badH; rw [hgn]; rfl))
        rw [hgn] at c1
        go_wp2
        go_ret2
        exact ⟨HK1.out, Or.inr ⟨HR.out, rfl⟩⟩
      | false =>
        have HGN := Lib.hid hgn
        rw [hgn] at c1
        clear hgn
        by_cases hz : kd = 0
        · have HR : Hid (putR h = none) := Lib.hid (HBAD.out (by
            have h1 : h.kind = 0 := UInt8.toNat.inj (show h.kind.toNat = 0 by have := HKV.out; omega)
            unfold badH; rw [h1]; simp))
          have hkz : (kd == 0) = true := by rw [hz]; rfl
          go_wp2
          go_ret2
          exact ⟨HK1.out, Or.inr ⟨HR.out, rfl⟩⟩
        · have hkz : (kd == 0) = false := by simpa using hz
          have HBD : Hid (badH h = (h.name.contains 0 || h.link.contains 0)) := Lib.hid (by
            have h1 : (h.kind == 0) = false := by
              rw [beq_eq_false_iff_ne]
              intro e
              exact hz (by rw [HKV.out, e]; rfl)
            have h2 : ¬ 100 < h.link.length := by rw [← HLS.out]; exact hlk
            unfold badH
            rw [HGN.out, h1]
            simp [h2])
          go_wp2_with fail
          clear hkz
          go_loop [6, 7] (fun ok i => ∃ (k : Nat) (q : Bool), k ≤ nm.size ∧ i = .int .i64 k ∧ ok = .bool q ∧ Hid (q = noZ h.name k)) (fun _ i => nm.size - (RowKit.intOf i).toNat)
          case atStart => exact ⟨0, _, Nat.zero_le _, rfl, rfl, Lib.hid (by rw [noZ_zero])⟩
          case round =>
            obtain ⟨k, q, hk, rfl, rfl, hq⟩ := hrel
            by_cases hlt : k < nm.size
            · have hxg : Hid (nm[k] = h.name.getD k 0) := Lib.hid (by rw [← s_at nm k hlt, HND.out])
              have HLT : Hid (k < h.name.length) := Lib.hid (by rw [← HNS.out]; exact hlt)
              cases q with
              | false =>
                go_wp2
                go_round
                case rel => exact ⟨k + 1, false, by omega, by go_num, rfl, Lib.hid (by rw [noZ_succ HLT.out, ← hq.out]; rfl)⟩
                case measure => simp [RowKit.intOf]; omega
              | true =>
                by_cases hc : nm[k] = 0
                · have hcb : (((nm[k]).toNat : Int) == 0) = true := by rw [hc]; rfl
                  have HC : Hid ((h.name.getD k 0 != 0) = false) := Lib.hid (by rw [← hxg.out, hc]; rfl)
                  go_wp2
                  go_round
                  case rel => exact ⟨k + 1, false, by omega, by go_num, (by first | rfl | (show Value.bool (!(((nm[k]).toNat : Int) == 0)) = Value.bool false; rw [hcb]; rfl)), Lib.hid (by rw [noZ_succ HLT.out, HC.out]; simp)⟩
                  case measure => simp [RowKit.intOf]; omega
                · have hcb : (((nm[k]).toNat : Int) == 0) = false := by
                    rw [beq_eq_false_iff_ne]
                    intro e
                    exact hc (UInt8.toNat.inj (show (nm[k]).toNat = 0 by omega))
                  have HC : Hid ((h.name.getD k 0 != 0) = true) := Lib.hid (by rw [← hxg.out]; simpa using hc)
                  go_wp2
                  go_round
                  case rel => exact ⟨k + 1, true, by omega, by go_num, (by show Value.bool (!(((nm[k]).toNat : Int) == 0)) = Value.bool true; rw [hcb]; rfl), Lib.hid (by rw [noZ_succ HLT.out, HC.out, Bool.and_true]; exact hq.out)⟩
                  case measure => simp [RowKit.intOf]; omega
            · have hkl : Hid (k = h.name.length) := Lib.hid (by rw [← HNS.out]; omega)
              have hq2 : Hid (q = noZ h.name h.name.length) := Lib.hid (by rw [hq.out, hkl.out])
              clear hq hkl
              go_wp2_with fail
              clear hlt hk
              go_loop [6, 8] (fun ok i => ∃ (k : Nat) (q : Bool), k ≤ ln.size ∧ i = .int .i64 k ∧ ok = .bool q ∧ Hid (q = (noZ h.name h.name.length && noZ h.link k))) (fun _ i => ln.size - (RowKit.intOf i).toNat)
              case atStart => exact ⟨0, _, Nat.zero_le _, rfl, rfl, Lib.hid (by rw [noZ_zero, Bool.and_true]; exact hq2.out)⟩
              case round =>
                obtain ⟨k, q, hk, rfl, rfl, hq⟩ := hrel
                by_cases hlt : k < ln.size
                · have hxg : Hid (ln[k] = h.link.getD k 0) := Lib.hid (by rw [← s_at ln k hlt, HLD.out])
                  have HLT : Hid (k < h.link.length) := Lib.hid (by rw [← HLS.out]; exact hlt)
                  cases q with
                  | false =>
                    go_wp2
                    go_round
                    case rel => exact ⟨k + 1, false, by omega, by go_num, rfl, Lib.hid (by rw [noZ_succ HLT.out, ← Bool.and_assoc, ← hq.out]; rfl)⟩
                    case measure => simp [RowKit.intOf]; omega
                  | true =>
                    by_cases hc : ln[k] = 0
                    · have hcb : (((ln[k]).toNat : Int) == 0) = true := by rw [hc]; rfl
                      have HC : Hid ((h.link.getD k 0 != 0) = false) := Lib.hid (by rw [← hxg.out, hc]; rfl)
                      go_wp2
                      go_round
                      case rel => exact ⟨k + 1, false, by omega, by go_num, (by first | rfl | (show Value.bool (!(((ln[k]).toNat : Int) == 0)) = Value.bool false; rw [hcb]; rfl)), Lib.hid (by rw [noZ_succ HLT.out, HC.out]; simp)⟩
                      case measure => simp [RowKit.intOf]; omega
                    · have hcb : (((ln[k]).toNat : Int) == 0) = false := by
                        rw [beq_eq_false_iff_ne]
                        intro e
                        exact hc (UInt8.toNat.inj (show (ln[k]).toNat = 0 by omega))
                      have HC : Hid ((h.link.getD k 0 != 0) = true) := Lib.hid (by rw [← hxg.out]; simpa using hc)
                      go_wp2
                      go_round
                      case rel => exact ⟨k + 1, true, by omega, by go_num, (by show Value.bool (!(((ln[k]).toNat : Int) == 0)) = Value.bool true; rw [hcb]; rfl), Lib.hid (by rw [noZ_succ HLT.out, HC.out, Bool.and_true]; exact hq.out)⟩
                      case measure => simp [RowKit.intOf]; omega
                · have hkl : Hid (k = h.link.length) := Lib.hid (by rw [← HLS.out]; omega)
                  have hq3 : Hid (q = !badH h) := Lib.hid (by
                    rw [hq.out, hkl.out, noZ_all, noZ_all, HBD.out, Bool.not_or])
                  go_wp2_with (at_make; refine wpList_make_full _ rfl _ _ 22 rfl w1.heap.size 5 i0 (.int .u8 0) 1 Tryz.underlying22 HIN.out HZ0.out HZ1.out .i64 .i64 _ _ 512 rfl rfl rfl rfl (by rw [HZ2.out]; omega) (by decide) (Nat.le_refl _) ?_)
                  intro w2 hown hgrow
                  have hrow := rowB_own hown
                  rw [← blockA_zero] at hrow
                  have hk2 : Kept noneB w1 w2 := (Kept.refl noneB w1).grown hgrow (fun k hk => by cases hk)
                  obtain ⟨g, hg⟩ : ∃ g, g = w1.heap.size := ⟨_, rfl⟩
                  rw [← hg] at hrow ⊢
                  have HROW := Lib.hid hrow
                  have HK2 := Lib.hid (HK1.out.trans hk2)
                  have HGE : Hid (w.heap.size ≤ g) := Lib.hid (by have := HK1.out.size; omega)
                  have HGG : Hid (gb ≠ g) := Lib.hid (by have := (Array.getElem?_eq_some_iff.1 HB1.out).1; omega)
                  have HB2 := Lib.hid (hk2.some_ HB1.out id)
                  have c2 := cellsAt HB2.out
                  rw [HGN.out] at c2
                  have HQ3 := Lib.hid hq3.out
                  clear hown hgrow hrow hk2 hg c1 hlt hk hkl hq hq3
                  obtain ⟨n1, hn1⟩ : ∃ n1, n1 = w2.heap.size := ⟨_, rfl⟩
                  obtain ⟨w3, hw3⟩ : ∃ w3, w3 = ((w2.alloc (.cells #[.int .i64 h.mode, .int .i64 h.uid, .int .i64 h.gid, .int .i64 h.time, .int .i64 h.size] 3)).alloc (.cells #[.int .i64 100, .int .i64 108, .int .i64 116, .int .i64 136, .int .i64 124] 3)).alloc (.cells #[.int .i64 8, .int .i64 8, .int .i64 8, .int .i64 12, .int .i64 12] 3) := ⟨_, rfl⟩
                  have hk3 : Kept noneB w2 w3 := by rw [hw3]; exact (((Kept.refl noneB w2).alloc _).alloc _).alloc _
                  have HA1 : Hid (w3.heap[n1]? = some (.cells #[.int .i64 h.mode, .int .i64 h.uid, .int .i64 h.gid, .int .i64 h.time, .int .i64 h.size] 3 (0, 0))) := Lib.hid (by
                    rw [hw3, hn1]
                    exact ((((Kept.refl noneB _).alloc _).alloc _).some_ (heap_alloc_new w2 _) id))
                  have HA2 : Hid (w3.heap[n1 + 1]? = some (.cells #[.int .i64 100, .int .i64 108, .int .i64 116, .int .i64 136, .int .i64 124] 3 (0, 0))) := Lib.hid (by
                    have h1 := ((Kept.refl noneB _).alloc (.cells #[.int .i64 8, .int .i64 8, .int .i64 8, .int .i64 12, .int .i64 12] 3)).some_ (heap_alloc_new (w2.alloc (.cells #[.int .i64 h.mode, .int .i64 h.uid, .int .i64 h.gid, .int .i64 h.time, .int .i64 h.size] 3)) (.cells #[.int .i64 100, .int .i64 108, .int .i64 116, .int .i64 136, .int .i64 124] 3)) id
                    rw [← hw3, World.size_alloc, ← hn1] at h1
                    exact h1)
                  have HA3 : Hid (w3.heap[n1 + 2]? = some (.cells #[.int .i64 8, .int .i64 8, .int .i64 8, .int .i64 12, .int .i64 12] 3 (0, 0))) := Lib.hid (by
                    have h1 := heap_alloc_new ((w2.alloc (.cells #[.int .i64 h.mode, .int .i64 h.uid, .int .i64 h.gid, .int .i64 h.time, .int .i64 h.size] 3)).alloc (.cells #[.int .i64 100, .int .i64 108, .int .i64 116, .int .i64 136, .int .i64 124] 3)) (.cells #[.int .i64 8, .int .i64 8, .int .i64 8, .int .i64 12, .int .i64 12] 3)
                    rw [← hw3, World.size_alloc, World.size_alloc, ← hn1] at h1
                    exact h1)
                  have HK3 := Lib.hid (HK2.out.trans hk3)
                  have HR3 := Lib.hid (HROW.out.kept hk3 id)
                  have HB3 := Lib.hid (hk3.some_ HB2.out id)
                  have HGN1 : Hid (g < n1) := Lib.hid (by rw [hn1]; exact HROW.out.lt)
                  clear hk3
                  go_wp2_with fail
                  rw [← hw3, ← hn1]
                  clear hw3 hn1 c2
                  go_loopw [13] (fun i wr => ∃ k : Nat, k ≤ 5 ∧ i = .int .i64 k ∧ Hid (Kept (oneB g) w3 wr) ∧ Hid (RowB wr g (blockA (ownK h k))) ∧ Hid (∀ j, j < k → (putF (numH h (ordP j)) (wideF (ordP j))).isSome = true) ∧ Hid (k = 0 ∨ q = true)) (fun i _ => 5 - (RowKit.intOf i).toNat)
                  case atStart => exact ⟨0, by omega, rfl, Lib.hid (Kept.refl _ _), HR3, Lib.hid (fun j hj => absurd hj (by omega)), Lib.hid (Or.inl rfl)⟩
                  case round =>
                    obtain ⟨k, hk, rfl, hk8, hr8, hall, hq8⟩ := hrel
                    by_cases hlt : k < 5
                    · have ca := cellsAt (hk8.out.some_ HA1.out (fun e => by have e : n1 = g := e; have := HGN1.out; omega)) k
                      rw [numC_get h hlt] at ca
                      have cb := cellsAt (hk8.out.some_ HA2.out (fun e => by have e : n1 + 1 = g := e; have := HGN1.out; omega)) k
                      rw [frC_get hlt] at cb
                      have cc := cellsAt (hk8.out.some_ HA3.out (fun e => by have e : n1 + 2 = g := e; have := HGN1.out; omega)) k
                      rw [wdC_get hlt] at cc
                      obtain ⟨ho1, ho2, ho3, ho4, ho5⟩ := ordP_in hlt
                      obtain ⟨i, hi⟩ : ∃ i, i = ordP k := ⟨_, rfl⟩
                      rw [← hi] at ca cb cc ho1 ho2 ho3 ho4 ho5
                      have HI := Lib.hid hi
                      clear hi
                      go_wp2_with fail
                      refine wp_region_any (by kernel_rfl) (rput_region (w3 := wr) (.slice (some ⟨n1, 0, none⟩) 5 5) (.slice (some ⟨n1 + 1 + 1, 0, none⟩) 5 5) (k : Int) ⟨n1, k, none⟩ ⟨n1 + 2, k, none⟩ (numH h i) (wideF i : Int) (PutS (putF (numH h i) (wideF i))) (show 152 ≤ 152 from Nat.le_refl 152) rfl rfl rfl (fun w => index5 n1 k hlt w) (fun w => index5 (n1 + 2) k hlt w) (fun w hk => load5 w _ _ (cellsAt (hk.some_ (hk8.out.some_ HA1.out (fun e => by have e : n1 = g := e; have := HGN1.out; omega)) id) k |>.trans (by rw [numC_get h hlt, HI.out]))) (fun w hk => load5 w _ _ (cellsAt (hk.some_ (hk8.out.some_ HA3.out (fun e => by have e : n1 + 2 = g := e; have := HGN1.out; omega)) id) k |>.trans (by rw [wdC_get hlt, HI.out]))) (fun w hk => rput_s _ _ w (HWF.out i) (WalkArith.wf_i64 (by omega))) ?_)
                      intro v y w4 hp hk4
                      have HK4 := Lib.hid hk4
                      have cb4 := cellsAt (hk4.some_ (hk8.out.some_ HA2.out (fun e => by have e : n1 + 1 = g := e; have := HGN1.out; omega)) id) k
                      rw [frC_get hlt, ← HI.out] at cb4
                      have HR4 := Lib.hid (hr8.out.kept hk4 id)
                      clear hk4 ca cb cc
                      simp only [Exit.then]
                      apply_assumption
                      rcases hp with ⟨l, sp, sc, hl, rfl, rfl, hlc, hsrc⟩ | ⟨hl, rfl, rfl⟩
                      · cases q with
                        | false =>
                          have HR : Hid (putR h = none) := Lib.hid (HBAD.out (by have := HQ3.out; revert this; cases badH h <;> simp))
                          go_wp2
                          go_ret2
                          exact ⟨(HK3.out.then hk8.out (fun i hi => Or.inl (by
                            have h1 : i = g := hi
                            rw [h1]
                            exact HGE.out))).trans HK4.out, Or.inr ⟨HR.out, rfl⟩⟩
                        | true =>
                          have HSOME : Hid ((putF (numH h i) (wideF i)).isSome = true) := Lib.hid (by rw [hl]; rfl)
                          have HNB : Hid (numB h i = bytesOf l) := Lib.hid (numB_some hl)
                          have hll2 : l.length = wideF i := by rw [← bytesOf_length, ← HNB.out]; exact numB_length HSOME.out
                          have HSRC := Lib.hid hsrc
                          have HFK := Lib.hid (ownK_fits hall.out)
                          have HMN : Hid ((bytesOf l).length = Nat.min (wideF i) (512 - atF i)) := Lib.hid (by rw [bytesOf_length, hll2]; exact (Nat.min_eq_left (by omega)).symm)
                          have HSR2 : Hid (BAt w4 sp (bytesOf l).length (bytesOf l)) := Lib.hid (by rw [bytesOf_length]; exact HSRC.out)
                          have HFIT : Hid (atF i + (bytesOf l).length ≤ (blockA (ownK h k)).length) := Lib.hid (by rw [bytesOf_length, blockA_length]; omega)
                          have hat : (atF i : Int) ≤ 512 := by omega
                          clear hl hsrc
                          go_wp2_with (first | (refine wpList_copyB rfl _ _ 22 22 rfl 5 Tryz.underlying22 infoSz (some ⟨g, atF i, none⟩) sp (512 - atF i) (512 - atF i) (wideF i) sc rfl rfl g (atF i) (blockA (ownK h k)) HR4.out (bytesOf l) HMN.out (fun _ => by simp) HSR2.out HFIT.out ?_; intro w5 hr5 hk5 hs5) | go_in)
                          have HK5 := Lib.hid hk5
                          have HR5 : Hid (RowB w5 g (blockA (ownK h (k + 1)))) := Lib.hid (by
                            have h1 := hr5.out
                            rw [splice_blockA HFK.out (by omega) (by rw [bytesOf_length, hll2]; exact Nat.le_refl _), putInto_all (by rw [bytesOf_length, hll2, HFK.out i]), ← HNB.out] at h1
                            rw [ownK, ← HI.out]
                            exact h1)
                          clear hk5 hs5 hr5
                          try go_frame
                          try go_wp2
                          go_roundw
                          case rel =>
                            refine ⟨k + 1, by omega, by go_num, Lib.hid ((hk8.out.trans (HK4.out.of_none _)).trans HK5.out), HR5, Lib.hid (fun j hj => ?_), Lib.hid (Or.inr (by simp))⟩
                            rcases Nat.lt_or_ge j k with h1 | h1
                            · exact hall.out j h1
                            · obtain rfl : j = k := by omega
                              rw [← HI.out]
                              exact HSOME.out
                          case measure => simp [RowKit.intOf]; omega
                      · have HR : Hid (putR h = none) := Lib.hid (putR_num (by
                          cases hn : numsOk h with
                          | false => rfl
                          | true =>
                            have h1 := numsOk_iff.1 hn i ho1 ho2
                            rw [hl] at h1
                            cases h1))
                        go_wp2
                        go_ret2
                        exact ⟨(HK3.out.then hk8.out (fun i hi => Or.inl (by
                          have h1 : i = g := hi
                          rw [h1]
                          exact HGE.out))).trans HK4.out, Or.inr ⟨HR.out, rfl⟩⟩
                    · obtain rfl : k = 5 := by omega
                      have hqt : q = true := by
                        rcases hq8.out with h1 | h1
                        · omega
                        · exact h1
                      subst hqt
                      have HBF : Hid (badH h = false) := Lib.hid (by have := HQ3.out; revert this; cases badH h <;> simp)
                      have HNO : Hid (numsOk h = true) := Lib.hid (numsOk_iff.2 (ordP_all fun j hj => hall.out j hj))
                      have HPR := Lib.hid (putR_ok HCUT.out HBF.out HNO.out)
                      have HKR : Hid (Kept noneB w wr) := Lib.hid (HK3.out.then hk8.out (fun i hi => Or.inl (by
                        have h1 : i = g := hi
                        rw [h1]
                        exact HGE.out)))
                      have HBR := Lib.hid (hk8.out.some_ HB3.out HGG.out)
                      obtain ⟨oA, hoA⟩ : ∃ oA, oA = ownK h 5 := ⟨_, rfl⟩
                      have hFA : Fits oA := by rw [hoA]; exact ownK_fits hall.out
                      rw [← hoA] at hr8
                      have HOA := Lib.hid hoA
                      have HFA := Lib.hid hFA
                      have hsl : s.length ≤ 100 := HSP.out.1
                      have hpl : p.length ≤ 155 := HSP.out.2.1
                      have h5 : ¬ ((5 : Int) < 5) := by omega
                      clear hoA hFA
                      go_wp2_with (first | (refine wpList_copyS rfl _ _ 22 9 rfl 5 Tryz.underlying22 infoSz (some ⟨g, 0, none⟩) 512 512 (str s) rfl rfl g 0 (blockA oA) hr8.out s (by rw [str_data, List.take_of_length_le (by omega)]) (fun _ => rfl) (by rw [blockA_length]; omega) ?_; intro w4 hr4 hk4 hs4) | go_in)
                      have HR4 := Lib.hid (copy_step HFA.out (i := 0) (by omega) (show s.length ≤ wideF 0 from hsl) hr4.out)
                      have HFB := Lib.hid (copy_fits HFA.out (i := 0) (show s.length ≤ wideF 0 from hsl))
                      have HK4 := Lib.hid hk4
                      clear hr4 hk4 hs4
                      have HP1 : Hid (p = (str p).data.toList.take 167) := Lib.hid (by rw [str_data, List.take_of_length_le (by omega)])
                      obtain ⟨oB, hoB⟩ : ∃ oB, oB = upd oA 0 (putInto (oA 0) s) := ⟨_, rfl⟩
                      rw [← hoB] at HR4 HFB
                      have HOB := Lib.hid hoB
                      have HP2 : Hid (345 + p.length ≤ (blockA oB).length) := Lib.hid (by rw [blockA_length]; omega)
                      clear hoB
                      obtain ⟨w5, hrun5, hr5, hk5, hs5⟩ := run_copyS (P := Tryz.prog) (w := w4) 22 9 3 5 Tryz.underlying22 infoSz (some ⟨g, 345, none⟩) 167 167 (str p) g 345 (blockA oB) HR4.out p HP1.out (fun _ => rfl) HP2.out
                      have hr5 := Lib.hid hr5
                      have HR5 := Lib.hid (copy_step HFB.out (i := 10) (by omega) (show p.length ≤ wideF 10 from hpl) hr5.out)
                      have HFC := Lib.hid (copy_fits HFB.out (i := 10) (show p.length ≤ wideF 10 from hpl))
                      have HK5 := Lib.hid (HK4.out.trans hk5)
                      have HB5 := Lib.hid (HK5.out.some_ HBR.out HGG.out)
                      have c5 := cellsAt HB5.out
                      clear hr5 hk5 hs5
                      go_wp2_with fail
                      rw [hrun5]
                      simp only [Result.andThen]
                      rw [Oper.upon_value]
                      apply_assumption
                      clear hrun5
                      go_wp2_with fail
                      try go_frame
                      go_still_tail 4, (by kernel_rfl)
                      obtain ⟨oC, hoC⟩ : ∃ oC, oC = upd oB 10 (putInto (oB 10) p) := ⟨_, rfl⟩
                      rw [← hoC] at HR5 HFC
                      have HOC := Lib.hid hoC
                      have hll : h.link.length ≤ 100 := by have := HLS.out; omega
                      have HLL := Lib.hid hll
                      have HL1 : Hid (h.link = ln.data.toList.take 355) := Lib.hid (by rw [HLD.out, List.take_of_length_le (by omega)])
                      have HL2 : Hid (157 + h.link.length ≤ (blockA oC).length) := Lib.hid (by rw [blockA_length]; omega)
                      clear hoC hll
                      refine wpList_copyS rfl _ _ 22 9 rfl 5 Tryz.underlying22 infoSz (some ⟨g, 157, none⟩) 355 355 ln rfl rfl g 157 (blockA oC) (HR5.out.kept (Kept.refl noneB _).drew id) h.link HL1.out (fun _ => rfl) HL2.out ?_
                      intro w6 hr6 hk6 hs6
                      have HR6 := Lib.hid (copy_step HFC.out (i := 8) (by omega) (show h.link.length ≤ wideF 8 from HLL.out) hr6.out)
                      have HFD := Lib.hid (copy_fits HFC.out (i := 8) (show h.link.length ≤ wideF 8 from HLL.out))
                      have HK6 : Hid (Kept (oneB g) wr w6) := Lib.hid (HK5.out.drew.trans hk6)
                      obtain ⟨oD, hoD⟩ : ∃ oD, oD = upd oC 8 (putInto (oC 8) h.link) := ⟨_, rfl⟩
                      rw [← hoD] at HR6 HFD
                      have HOD := Lib.hid hoD
                      clear hr6 hk6 hs6 hoD
                      have HU2 : Hid (257 + ustarB.length ≤ (blockA oD).length) := Lib.hid (by rw [blockA_length]; decide)
                      try go_frame
                      have HU1 : Hid (ustarB.length ≤ wideF 9) := Lib.hid (by decide)
                      go_wp2_with (first | (refine wpList_copyS rfl _ _ 22 9 rfl 5 Tryz.underlying22 infoSz (some ⟨g, 257, none⟩) 255 255 _ rfl rfl g 257 (blockA oD) HR6.out ustarB rfl (fun _ => rfl) HU2.out ?_; intro w7 hr7 hk7 hs7; have HR7 := Lib.hid (copy_step HFD.out (i := 9) (by omega) HU1.out hr7.out); have HK7 : Hid (Kept (oneB g) wr w7) := Lib.hid (HK6.out.trans hk7); have c7 := cellsAt (HK7.out.some_ HBR.out HGG.out); have e156 := HR7.out.cell 156 (by rw [blockA_length]; omega); have f156 := HR7.out.frozen 156; clear hr7 hk7 hs7) | fail)
                      obtain ⟨oE, hoE⟩ : ∃ oE, oE = upd oD 9 (putInto (oD 9) ustarB) := ⟨_, rfl⟩
                      rw [← hoE] at HR7
                      have hFE : Fits oE := by rw [hoE]; exact copy_fits HFD.out (i := 9) HU1.out
                      have hr8 := HR7.out.set 156 h.kind
                      rw [← HKV.out, set_splice _ _ _ (by rw [blockA_length]; omega)] at hr8
                      have hr8 := copy_step hFE (i := 7) (by omega) (show [h.kind].length ≤ wideF 7 from Nat.le_refl _) hr8
                      have hfin : upd oE 7 (putInto (oE 7) [h.kind]) = own1 h p s := by
                        rw [hoE, HOD.out, HOC.out, HOB.out, HOA.out]
                        exact final_own h p s (by rw [← HOA.out]; exact HFA.out) HSP.out.1 HSP.out.2.1 HLL.out HNO.out
                      rw [hfin] at hr8
                      obtain ⟨w8, hw8⟩ : ∃ w8, w8 = w7.setCell ⟨g, 156, none⟩ (.int .u8 kd) := ⟨_, rfl⟩
                      rw [← hw8] at hr8 ⊢
                      have HK8 : Hid (Kept (oneB g) wr w8) := Lib.hid (by rw [hw8]; exact HK7.out.setCell (a := ⟨g, 156, none⟩) (Or.inr (show oneB g g from rfl)) _)
                      have HR8 := Lib.hid hr8
                      have hb8 := hr8.bat
                      rw [blockA_length] at hb8
                      obtain ⟨S, hS⟩ : ∃ S, S = sumTo (blockA (own1 h p s)) 512 := ⟨_, rfl⟩
                      have hSL := sumTo_le (blockA (own1 h p s)) 512
                      refine (rsum_any _ 512 512 (blockA (own1 h p s)) w8 (by omega) hb8).mono ?_
                      rintro e w8' ⟨rfl, rfl⟩
                      rw [← hS] at hSL ⊢
                      have HSS := Lib.hid hS
                      have HO1 := Lib.hid (own1_fits HSP.out.1 HSP.out.2.1 HLL.out HNO.out)
                      clear hS hb8 hr8 hw8 hfin hFE hoE c7 e156 f156
                      go_wp2_with fail
                      refine (rput_s (S : Int) 7 w8 (WalkArith.wf_i64 (by omega)) (by decide)).mono ?_
                      rintro e w9 ⟨v, y, rfl, hp, hk9⟩
                      rcases hp with ⟨l, sp, sc, hl, rfl, rfl, hlc, hsrc⟩ | ⟨hl, _, _⟩
                      · rw [putF_sum (by omega)] at hl
                        have hl := Option.some.inj hl
                        have hl7 : l.length = 7 := by rw [← hl]; simp [putD_length]
                        have HR9 := Lib.hid (HR8.out.kept hk9 id)
                        have HK9 : Hid (Kept (oneB g) wr w9) := Lib.hid (HK8.out.trans (hk9.of_none _))
                        have HSRC : Hid (BAt w9 sp (bytesOf l).length (bytesOf l)) := Lib.hid (by rw [bytesOf_length]; exact hsrc)
                        have HMN : Hid ((bytesOf l).length = Nat.min 7 364) := Lib.hid (by rw [bytesOf_length, hl7]; rfl)
                        have HFIT : Hid (148 + (bytesOf l).length ≤ (blockA (own1 h p s)).length) := Lib.hid (by rw [bytesOf_length, blockA_length, hl7]; omega)
                        have HB7 : Hid ((bytesOf l).length = 7) := Lib.hid (by rw [bytesOf_length, hl7])
                        have HSB : Hid (bytesOf l ++ [32] = sumB S) := Lib.hid (by rw [sumB, hl])
                        rw [hl7]
                        rw [hl7] at hlc
                        clear hl hl7 hsrc hk9
                        go_wp2_with (first | (refine wpList_copyB rfl _ _ 22 22 rfl 5 Tryz.underlying22 infoSz (some ⟨g, 148, none⟩) sp 364 364 7 sc rfl rfl g 148 (blockA (own1 h p s)) HR9.out (bytesOf l) HMN.out (fun _ => rfl) HSRC.out HFIT.out ?_; intro w10 hr10 hk10 hs10; have HR10 := Lib.hid hr10.out; have HK10 : Hid (Kept (oneB g) wr w10) := Lib.hid (HK9.out.trans hk10); have e155 := HR10.out.cell 155 (by rw [length_splice _ _ _ HFIT.out, blockA_length]; omega); have f155 := HR10.out.frozen 155; clear hr10 hk10 hs10) | fail)
                        have hset : (splice (blockA (own1 h p s)) 148 (bytesOf l)).set 155 32 = blockA (own2 h p s) := by
                          have h1 := splice_snoc (blockA (own1 h p s)) (bytesOf l) 148 32 (by rw [HB7.out, blockA_length]; omega)
                          rw [HB7.out, HSB.out] at h1
                          have h2 : splice (blockA (own1 h p s)) 148 (sumB S) = _ := splice_blockA HO1.out (i := 6) (by omega) (by rw [sumB_length]; exact Nat.le_refl _)
                          rw [putInto_all (by rw [sumB_length, (own1_field h p s).2.1]; rfl), HSS.out] at h2
                          rw [HSS.out] at h1
                          exact h1.trans h2
                        have hr11 := HR10.out.set 155 32
                        rw [hset] at hr11
                        go_ret2
                        exact ⟨HKR.out.then (HK10.out.setCell (a := ⟨g, 155, none⟩) (Or.inr (show oneB g g from rfl)) _) (fun i hi => Or.inl (by
                          have h1 : i = g := hi
                          rw [h1]
                          exact HGE.out)), Or.inl ⟨_, g, HPR.out, rfl, hr11, HGE.out⟩⟩
                      · exfalso
                        rw [putF_sum (by omega)] at hl
                        cases hl
end Go.Proofs.YtdjedimjhogdoaaGreatDoor.Head
end
