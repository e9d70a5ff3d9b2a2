/- head.Parse's last statement: its calls and look-ups in whatever order. -/
import Derived.Test.YtdnelijkhinpcabDoorHeadParse0
import Derived.Test.YtdnelijkhinpcabDoorRegion
import Derived.Shelf.Abstract
namespace Go.Proofs.YtdnelijkhinpcabDoor.Head
open Go.ChangeShapes Go.WideShapes Go.ChangeAt Go.RowKit Go.Proofs.YtdnelijkhinpcabDoor.Base Go.Proofs.YtdnelijkhinpcabDoor.Byt Go.Proofs.YtdnelijkhinpcabDoor.Hp Go.Proofs.YtdnelijkhinpcabDoor.Mp Go.Lib
set_option linter.unusedVariables false
set_option maxRecDepth 100000

noncomputable def parseOps : Array Oper := regionAt Tryd.f9 13
/-- what each operation yields -/
def pV (B Q : Nat) (mg nm ln : ByteArray) (gnu : Bool) (kd v1 v2 v3 v4 v5 : Int) : Nat → Value
  | 0 => .map (some B) | 1 => .string mg | 2 => .bool gnu | 3 => .string nm | 4 => .map (some B) | 5 => .string ln | 6 => .map (some B) | 7 => .int .u8 kd
  | 8 => .map (some Q) | 9 => .int .i64 v1 | 10 => .map (some Q) | 11 => .int .i64 v2 | 12 => .map (some Q) | 13 => .int .i64 v3 | 14 => .map (some Q) | 15 => .int .i64 v5
  | 16 => .agg #[.int .i64 v1, .int .i64 v2, .int .i64 v3, .int .i64 v5] | 17 => .map (some Q) | 18 => .int .i64 v4 | 19 => .string mg | 20 => .bool gnu
  | 21 => .agg #[.string nm, .string ln, .int .u8 kd, .int .i64 v1, .int .i64 v2, .int .i64 v3, .int .i64 v5, .int .i64 v4, .bool gnu] | 23 => .int .i64 0 | _ => undef
theorem parse_size : parseOps.size = 24 := rfl
theorem parse_apart : apartB parseOps 73 = true := by kernel_rfl
theorem pop0 : ∃ o, parseOps[0]? = some o ∧ o.op = .move (.tmp 4) ∧ o.dst = some 51 := ⟨_, rfl, rfl, rfl⟩
theorem pop1 : ∃ o, parseOps[1]? = some o ∧ o.op = .move (.tmp 7) ∧ o.dst = some 52 := ⟨_, rfl, rfl, rfl⟩
theorem pop2 : ∃ o, parseOps[2]? = some o ∧ o.op = .binOp .eql 9 (.tmp 52) (.const (.string ⟨#[117, 115, 116, 97, 114, 32, 32, 0]⟩)) 9 ∧ o.dst = some 53 := ⟨_, rfl, rfl, rfl⟩
theorem pop3 : ∃ o, parseOps[3]? = some o ∧ o.op = .call { callee := .value (.func 25), args := #[.tmp 51, .tmp 53], argTypes := #[44, 4] } ∧ o.dst = some 54 := ⟨_, rfl, rfl, rfl⟩
theorem pop4 : ∃ o, parseOps[4]? = some o ∧ o.op = .move (.tmp 4) ∧ o.dst = some 55 := ⟨_, rfl, rfl, rfl⟩
theorem pop5 : ∃ o, parseOps[5]? = some o ∧ o.op = .call { callee := .value (.func 26), args := #[.tmp 55, .const (.int .i64 8)], argTypes := #[44, 47] } ∧ o.dst = some 56 := ⟨_, rfl, rfl, rfl⟩
theorem pop6 : ∃ o, parseOps[6]? = some o ∧ o.op = .move (.tmp 4) ∧ o.dst = some 57 := ⟨_, rfl, rfl, rfl⟩
theorem pop7 : ∃ o, parseOps[7]? = some o ∧ o.op = .call { callee := .value (.func 27), args := #[.tmp 57], argTypes := #[44] } ∧ o.dst = some 58 := ⟨_, rfl, rfl, rfl⟩
theorem pop8 : ∃ o, parseOps[8]? = some o ∧ o.op = .move (.tmp 8) ∧ o.dst = some 59 := ⟨_, rfl, rfl, rfl⟩
theorem pop9 : ∃ o, parseOps[9]? = some o ∧ o.op = .lookup 54 (.tmp 59) (.const (.int .i64 1)) false ∧ o.dst = some 60 := ⟨_, rfl, rfl, rfl⟩
theorem pop10 : ∃ o, parseOps[10]? = some o ∧ o.op = .move (.tmp 8) ∧ o.dst = some 61 := ⟨_, rfl, rfl, rfl⟩
theorem pop11 : ∃ o, parseOps[11]? = some o ∧ o.op = .lookup 54 (.tmp 61) (.const (.int .i64 2)) false ∧ o.dst = some 62 := ⟨_, rfl, rfl, rfl⟩
theorem pop12 : ∃ o, parseOps[12]? = some o ∧ o.op = .move (.tmp 8) ∧ o.dst = some 63 := ⟨_, rfl, rfl, rfl⟩
theorem pop13 : ∃ o, parseOps[13]? = some o ∧ o.op = .lookup 54 (.tmp 63) (.const (.int .i64 3)) false ∧ o.dst = some 64 := ⟨_, rfl, rfl, rfl⟩
theorem pop14 : ∃ o, parseOps[14]? = some o ∧ o.op = .move (.tmp 8) ∧ o.dst = some 65 := ⟨_, rfl, rfl, rfl⟩
theorem pop15 : ∃ o, parseOps[15]? = some o ∧ o.op = .lookup 54 (.tmp 65) (.const (.int .i64 5)) false ∧ o.dst = some 66 := ⟨_, rfl, rfl, rfl⟩
theorem pop16 : ∃ o, parseOps[16]? = some o ∧ o.op = .build 23 #[(0, .tmp 60), (1, .tmp 62), (2, .tmp 64), (3, .tmp 66)] ∧ o.dst = some 67 := ⟨_, rfl, rfl, rfl⟩
theorem pop17 : ∃ o, parseOps[17]? = some o ∧ o.op = .move (.tmp 8) ∧ o.dst = some 68 := ⟨_, rfl, rfl, rfl⟩
theorem pop18 : ∃ o, parseOps[18]? = some o ∧ o.op = .lookup 54 (.tmp 68) (.const (.int .i64 4)) false ∧ o.dst = some 69 := ⟨_, rfl, rfl, rfl⟩
theorem pop19 : ∃ o, parseOps[19]? = some o ∧ o.op = .move (.tmp 7) ∧ o.dst = some 70 := ⟨_, rfl, rfl, rfl⟩
theorem pop20 : ∃ o, parseOps[20]? = some o ∧ o.op = .binOp .eql 9 (.tmp 70) (.const (.string ⟨#[117, 115, 116, 97, 114, 32, 32, 0]⟩)) 9 ∧ o.dst = some 71 := ⟨_, rfl, rfl, rfl⟩
theorem pop21 : ∃ o, parseOps[21]? = some o ∧ o.op = .build 25 #[(0, .tmp 54), (1, .tmp 56), (2, .tmp 58), (3, .tmp 67), (4, .tmp 69), (5, .tmp 71)] ∧ o.dst = some 72 := ⟨_, rfl, rfl, rfl⟩
theorem pop22 : ∃ o, parseOps[22]? = some o ∧ o.op = .store 25 (.tmp 2) (.tmp 72) ∧ o.dst = none := ⟨_, rfl, rfl, rfl⟩
theorem pop23 : ∃ o, parseOps[23]? = some o ∧ o.op = .assign (.const (.int .i64 0)) ∧ o.dst = some 3 := ⟨_, rfl, rfl, rfl⟩
theorem build_meta (w : World) (a b c d : Int) : (Instr.build 23 #[(0, .int .i64 a), (1, .int .i64 b), (2, .int .i64 c), (3, .int .i64 d)]).run Tryd.prog w = .ok (.agg #[.int .i64 a, .int .i64 b, .int .i64 c, .int .i64 d]) w := by kernel_rfl
theorem build_head (w : World) (n l : ByteArray) (k a b c d s : Int) (g : Bool) : (Instr.build 25 #[(0, .string n), (1, .string l), (2, .int .u8 k), (3, .agg #[.int .i64 a, .int .i64 b, .int .i64 c, .int .i64 d]), (4, .int .i64 s), (5, .bool g)]).run Tryd.prog w = .ok (.agg #[.string n, .string l, .int .u8 k, .int .i64 a, .int .i64 b, .int .i64 c, .int .i64 d, .int .i64 s, .bool g]) w := by kernel_rfl
theorem wp_store9 {o : Oper} {a : Act} {w : World} {K : Act → World → Prop} {Q : Exit → Act → World → Prop} (p x : Operand) (ho : o.op = .store 25 p x) (g : Nat) (hp : a.eval p = .pointer (some ⟨g, 0, none⟩)) (n l : ByteArray) (k m u i t s : Int) (b : Bool)
    (hx : a.eval x = .agg #[.string n, .string l, .int .u8 k, .int .i64 m, .int .i64 u, .int .i64 i, .int .i64 t, .int .i64 s, .bool b]) (hz : w.heap[g]? = some (.cells zeroCs 25 (0, 0)))
    (h : ∀ w', w'.heap[g]? = some (.cells #[.string n, .string l, .int .u8 k, .int .i64 m, .int .i64 u, .int .i64 i, .int .i64 t, .int .i64 s, .bool b] 25 (0, 0)) → Kept (oneB g) w w' → K (a.put o.dst undef) w') : Oper.wp Tryd.prog o a w K Q := by
  have c0 := cellsAt hz
  have f0 := cellsFrozen hz
  have h9 := stored9 hz
  have k9 := kept9 (Kept.refl (oneB g) w)
  unfold zeroCs at c0
  clear hz
  have hr : (execOp a.eval o).run Tryd.prog w = .ok .skip (((((((((w.setCell ⟨g, 0, none⟩ (.string n)).setCell ⟨g, 1, none⟩ (.string l)).setCell ⟨g, 2, none⟩ (.int .u8 k)).setCell ⟨g, 3, none⟩ (.int .i64 m)).setCell ⟨g, 4, none⟩ (.int .i64 u)).setCell ⟨g, 5, none⟩ (.int .i64 i)).setCell ⟨g, 6, none⟩ (.int .i64 t)).setCell ⟨g, 7, none⟩ (.int .i64 s)).setCell ⟨g, 8, none⟩ (.bool b)) := by
    generalize a.eval = ev at hp hx
    simp [go_sem, execOp, ho, hp, hx, c0, f0, Result.andThen]
  unfold Oper.wp
  rw [hr, Oper.upon_skip]
  exact h _ (h9 _ _ _ _ _ _ _ _ _) (k9 _ _ _ _ _ _ _ _ _)
set_option maxHeartbeats 1000000 in
theorem parse_region {Q' : Exit → Act → World → Prop} {a0 : Act} {w3 : World} (g lo B Q : Nat) (r : Nat → Nat) (own : Nat → List UInt8) (mg : ByteArray) (gnu : Bool) (v1 v2 v3 v4 v5 : Int)
    (hsz : 73 ≤ a0.tmps.size) (h2 : a0.eval (.tmp 2) = .pointer (some ⟨g, 0, none⟩)) (h4 : a0.eval (.tmp 4) = .map (some B)) (h7 : a0.eval (.tmp 7) = .string mg) (h8 : a0.eval (.tmp 8) = .map (some Q))
    (hP : PartsAt w3 lo B r own) (hBg : B ≠ g) (hrg : ∀ i, i < 11 → r i ≠ g) (hz : w3.heap[g]? = some (.cells zeroCs 25 (0, 0)))
    (hlk : ∀ w', Kept (oneB g) w3 w' → (Instr.lookup 54 (.map (some Q)) (.int .i64 1) false).run Tryd.prog w' = .ok (.int .i64 v1) w' ∧ (Instr.lookup 54 (.map (some Q)) (.int .i64 2) false).run Tryd.prog w' = .ok (.int .i64 v2) w' ∧
      (Instr.lookup 54 (.map (some Q)) (.int .i64 3) false).run Tryd.prog w' = .ok (.int .i64 v3) w' ∧ (Instr.lookup 54 (.map (some Q)) (.int .i64 4) false).run Tryd.prog w' = .ok (.int .i64 v4) w' ∧ (Instr.lookup 54 (.map (some Q)) (.int .i64 5) false).run Tryd.prog w' = .ok (.int .i64 v5) w')
    (hgn : (mg.toList == [117, 115, 116, 97, 114, 32, 32, 0]) = gnu)
    (hQ : ∀ a' w', a'.defers = a0.defers → a'.eval (.tmp 2) = .pointer (some ⟨g, 0, none⟩) → a'.eval (.tmp 3) = .int .i64 0 →
      w'.heap[g]? = some (.cells #[.string (str (nameF (untilB (own 10)) (untilB (own 0)) gnu)), .string (str (untilB (own 8))), .int .u8 ((kindO (own 7)).toNat : Int), .int .i64 v1, .int .i64 v2, .int .i64 v3, .int .i64 v5, .int .i64 v4, .bool gnu] 25 (0, 0)) → Kept (oneB g) w3 w' → Q' .normal a' w') :
    wpAny Tryd.prog .any parseOps Q' parseOps.size (Array.replicate parseOps.size false) a0 w3.drew := by
  have no : ∀ j, (Array.replicate parseOps.size false).getD j false = false := fun j => by
    rw [Array.getD_eq_getD_getElem?, Array.getElem?_replicate]
    split <;> rfl
  obtain ⟨nm, hnm⟩ : ∃ nm, nm = str (nameF (untilB (own 10)) (untilB (own 0)) gnu) := ⟨_, rfl⟩
  obtain ⟨ln, hln⟩ : ∃ ln, ln = str (untilB (own 8)) := ⟨_, rfl⟩
  obtain ⟨kd, hkd⟩ : ∃ kd : Int, kd = ((kindO (own 7)).toNat : Int) := ⟨_, rfl⟩
  rw [← hnm, ← hln, ← hkd] at hQ
  obtain ⟨C, hC⟩ : ∃ C : Array Value, C = #[.string nm, .string ln, .int .u8 kd, .int .i64 v1, .int .i64 v2, .int .i64 v3, .int .i64 v5, .int .i64 v4, .bool gnu] := ⟨_, rfl⟩
  rw [← hC] at hQ
  refine wpAny_vals (pV B Q mg nm ln gnu kd v1 v2 v3 v4 v5) a0 (fun listed w => Kept (oneB g) w3 w ∧ w.heap[g]? = some (.cells (if listed.getD 22 false = true then C else zeroCs) 25 (0, 0))) 73 parse_apart hsz ?_ ?_ ⟨(Kept.refl _ w3).drew, by rw [no]; exact hz⟩
  · intro listed a w j o h ho hun hdep
    have hlt := lt_of_unlisted hun
    obtain ⟨hk, hh⟩ := h.wd
    have keep : ∀ w', j ≠ 22 → Kept noneB w w' → Kept (oneB g) w3 w' ∧ w'.heap[g]? = some (.cells (if (listed.setIfInBounds j true).getD 22 false = true then C else zeroCs) 25 (0, 0)) := fun w' hj hk' => by
      rw [listed_get hlt, if_neg (Ne.symm hj)]
      exact ⟨hk.trans (hk'.of_none _), hk'.some_ hh id⟩
    have hj24 : j < 24 := by
      have := (Array.getElem?_eq_some_iff.1 ho).1
      rwa [parse_size] at this
    have hPw : PartsAt w lo B r own := hP.kept hk hBg hrg
    obtain ⟨l1, l2, l3, l4, l5⟩ := hlk w hk
    have same : ∀ {j' : Nat} {o' : Oper}, parseOps[j']? = some o' → j = j' → o' = o := fun {j' o'} h' e => by subst e; exact Option.some.inj (h'.symm.trans ho)
    rcases (show j = 0 ∨ j = 1 ∨ j = 2 ∨ j = 3 ∨ j = 4 ∨ j = 5 ∨ j = 6 ∨ j = 7 ∨ j = 8 ∨ j = 9 ∨ j = 10 ∨ j = 11 ∨ j = 12 ∨ j = 13 ∨ j = 14 ∨ j = 15 ∨ j = 16 ∨ j = 17 ∨ j = 18 ∨ j = 19 ∨ j = 20 ∨ j = 21 ∨ j = 22 ∨ j = 23 by omega) with rfl | rfl | rfl | rfl | rfl | rfl | rfl | rfl | rfl | rfl | rfl | rfl | rfl | rfl | rfl | rfl | rfl | rfl | rfl | rfl | rfl | rfl | rfl | rfl
    · obtain ⟨o', ho', hop, hdst⟩ := pop0
      obtain rfl := same ho' rfl
      exact wp_move _ _ (Or.inl hop) ((h.old (t := 4) (by kernel_rfl)).trans h4) ⟨rfl, keep w (by decide) (Kept.refl _ _)⟩
    · obtain ⟨o', ho', hop, hdst⟩ := pop1
      obtain rfl := same ho' rfl
      exact wp_move _ _ (Or.inl hop) ((h.old (t := 7) (by kernel_rfl)).trans h7) ⟨rfl, keep w (by decide) (Kept.refl _ _)⟩
    · obtain ⟨o', ho', hop, hdst⟩ := pop2
      obtain rfl := same ho' rfl
      have e := (h.get ho hdep (i := 1) (d := 52) (by kernel_rfl) rfl)
      refine wp_run (.bool gnu) ?_ ⟨rfl, keep w (by decide) (Kept.refl _ _)⟩
      have e : a.eval (.tmp 52) = .string mg := e
      have ec : a.eval (.const (.string ⟨#[117, 115, 116, 97, 114, 32, 32, 0]⟩)) = .string ⟨#[117, 115, 116, 97, 114, 32, 32, 0]⟩ := rfl
      generalize a.eval = ev at e ec ⊢
      simp [go_sem, execOp, hop, e, ec, hgn]
    · obtain ⟨o', ho', hop, hdst⟩ := pop3
      obtain rfl := same ho' rfl
      have e0 : a.eval (.tmp 51) = .map (some B) := (h.get ho hdep (i := 0) (d := 51) (by kernel_rfl) rfl)
      have e1 : a.eval (.tmp 53) = .bool gnu := (h.get ho hdep (i := 2) (d := 53) (by kernel_rfl) rfl)
      refine wp_call _ _ _ hop #[.map (some B), .bool gnu] (by simp [e0, e1]) (enters_of Tryd.func25 (by kernel_rfl) rfl) (.string nm) (fun w' => Kept noneB w w') ?_ (fun w' hk' => ⟨rfl, keep w' (by decide) hk'⟩)
      rw [hnm]
      exact name_any lo B r own gnu w hPw
    · obtain ⟨o', ho', hop, hdst⟩ := pop4
      obtain rfl := same ho' rfl
      exact wp_move _ _ (Or.inl hop) ((h.old (t := 4) (by kernel_rfl)).trans h4) ⟨rfl, keep w (by decide) (Kept.refl _ _)⟩
    · obtain ⟨o', ho', hop, hdst⟩ := pop5
      obtain rfl := same ho' rfl
      have e0 : a.eval (.tmp 55) = .map (some B) := (h.get ho hdep (i := 4) (d := 55) (by kernel_rfl) rfl)
      refine wp_call _ _ _ hop #[.map (some B), .int .i64 8] (by simp [e0, evalC]) (enters_of Tryd.func26 (by kernel_rfl) rfl) (.string ln) (fun w' => Kept noneB w w') ?_ (fun w' hk' => ⟨rfl, keep w' (by decide) hk'⟩)
      rw [hln]
      exact text_any lo B r own 8 w (by omega) hPw
    · obtain ⟨o', ho', hop, hdst⟩ := pop6
      obtain rfl := same ho' rfl
      exact wp_move _ _ (Or.inl hop) ((h.old (t := 4) (by kernel_rfl)).trans h4) ⟨rfl, keep w (by decide) (Kept.refl _ _)⟩
    · obtain ⟨o', ho', hop, hdst⟩ := pop7
      obtain rfl := same ho' rfl
      have e0 : a.eval (.tmp 57) = .map (some B) := (h.get ho hdep (i := 6) (d := 57) (by kernel_rfl) rfl)
      refine wp_call _ _ _ hop #[.map (some B)] (by simp [e0]) (enters_of Tryd.func27 (by kernel_rfl) rfl) (.int .u8 kd) (fun w' => Kept noneB w w') ?_ (fun w' hk' => ⟨rfl, keep w' (by decide) hk'⟩)
      rw [hkd]
      refine (kind_any lo B r own w hPw).mono ?_
      rintro e w' ⟨rfl, rfl⟩
      exact ⟨rfl, Kept.refl _ _⟩
    · obtain ⟨o', ho', hop, hdst⟩ := pop8
      obtain rfl := same ho' rfl
      exact wp_move _ _ (Or.inl hop) ((h.old (t := 8) (by kernel_rfl)).trans h8) ⟨rfl, keep w (by decide) (Kept.refl _ _)⟩
    · obtain ⟨o', ho', hop, hdst⟩ := pop9
      obtain rfl := same ho' rfl
      exact wp_look _ _ _ hop _ _ _ (h.get ho hdep (i := 8) (d := 59) (by kernel_rfl) rfl) rfl l1 ⟨rfl, keep w (by decide) (Kept.refl _ _)⟩
    · obtain ⟨o', ho', hop, hdst⟩ := pop10
      obtain rfl := same ho' rfl
      exact wp_move _ _ (Or.inl hop) ((h.old (t := 8) (by kernel_rfl)).trans h8) ⟨rfl, keep w (by decide) (Kept.refl _ _)⟩
    · obtain ⟨o', ho', hop, hdst⟩ := pop11
      obtain rfl := same ho' rfl
      exact wp_look _ _ _ hop _ _ _ (h.get ho hdep (i := 10) (d := 61) (by kernel_rfl) rfl) rfl l2 ⟨rfl, keep w (by decide) (Kept.refl _ _)⟩
    · obtain ⟨o', ho', hop, hdst⟩ := pop12
      obtain rfl := same ho' rfl
      exact wp_move _ _ (Or.inl hop) ((h.old (t := 8) (by kernel_rfl)).trans h8) ⟨rfl, keep w (by decide) (Kept.refl _ _)⟩
    · obtain ⟨o', ho', hop, hdst⟩ := pop13
      obtain rfl := same ho' rfl
      exact wp_look _ _ _ hop _ _ _ (h.get ho hdep (i := 12) (d := 63) (by kernel_rfl) rfl) rfl l3 ⟨rfl, keep w (by decide) (Kept.refl _ _)⟩
    · obtain ⟨o', ho', hop, hdst⟩ := pop14
      obtain rfl := same ho' rfl
      exact wp_move _ _ (Or.inl hop) ((h.old (t := 8) (by kernel_rfl)).trans h8) ⟨rfl, keep w (by decide) (Kept.refl _ _)⟩
    · obtain ⟨o', ho', hop, hdst⟩ := pop15
      obtain rfl := same ho' rfl
      exact wp_look _ _ _ hop _ _ _ (h.get ho hdep (i := 14) (d := 65) (by kernel_rfl) rfl) rfl l5 ⟨rfl, keep w (by decide) (Kept.refl _ _)⟩
    · obtain ⟨o', ho', hop, hdst⟩ := pop16
      obtain rfl := same ho' rfl
      have e0 := (h.get ho hdep (i := 9) (d := 60) (by kernel_rfl) rfl)
      have e1 := (h.get ho hdep (i := 11) (d := 62) (by kernel_rfl) rfl)
      have e2 := (h.get ho hdep (i := 13) (d := 64) (by kernel_rfl) rfl)
      have e3 := (h.get ho hdep (i := 15) (d := 66) (by kernel_rfl) rfl)
      refine wp_run _ ?_ ⟨rfl, keep w (by decide) (Kept.refl _ _)⟩
      have b := build_meta w v1 v2 v3 v5
      have e0 : a.eval (.tmp 60) = .int .i64 v1 := e0
      have e1 : a.eval (.tmp 62) = .int .i64 v2 := e1
      have e2 : a.eval (.tmp 64) = .int .i64 v3 := e2
      have e3 : a.eval (.tmp 66) = .int .i64 v5 := e3
      simp [execOp, hop, e0, e1, e2, e3, b, Result.andThen, pV]
    · obtain ⟨o', ho', hop, hdst⟩ := pop17
      obtain rfl := same ho' rfl
      exact wp_move _ _ (Or.inl hop) ((h.old (t := 8) (by kernel_rfl)).trans h8) ⟨rfl, keep w (by decide) (Kept.refl _ _)⟩
    · obtain ⟨o', ho', hop, hdst⟩ := pop18
      obtain rfl := same ho' rfl
      exact wp_look _ _ _ hop _ _ _ (h.get ho hdep (i := 17) (d := 68) (by kernel_rfl) rfl) rfl l4 ⟨rfl, keep w (by decide) (Kept.refl _ _)⟩
    · obtain ⟨o', ho', hop, hdst⟩ := pop19
      obtain rfl := same ho' rfl
      exact wp_move _ _ (Or.inl hop) ((h.old (t := 7) (by kernel_rfl)).trans h7) ⟨rfl, keep w (by decide) (Kept.refl _ _)⟩
    · obtain ⟨o', ho', hop, hdst⟩ := pop20
      obtain rfl := same ho' rfl
      have e := (h.get ho hdep (i := 19) (d := 70) (by kernel_rfl) rfl)
      refine wp_run (.bool gnu) ?_ ⟨rfl, keep w (by decide) (Kept.refl _ _)⟩
      have e : a.eval (.tmp 70) = .string mg := e
      have ec : a.eval (.const (.string ⟨#[117, 115, 116, 97, 114, 32, 32, 0]⟩)) = .string ⟨#[117, 115, 116, 97, 114, 32, 32, 0]⟩ := rfl
      generalize a.eval = ev at e ec ⊢
      simp [go_sem, execOp, hop, e, ec, hgn]
    · obtain ⟨o', ho', hop, hdst⟩ := pop21
      obtain rfl := same ho' rfl
      have e0 : a.eval (.tmp 54) = .string nm := (h.get ho hdep (i := 3) (d := 54) (by kernel_rfl) rfl)
      have e1 : a.eval (.tmp 56) = .string ln := (h.get ho hdep (i := 5) (d := 56) (by kernel_rfl) rfl)
      have e2 : a.eval (.tmp 58) = .int .u8 kd := (h.get ho hdep (i := 7) (d := 58) (by kernel_rfl) rfl)
      have e3 : a.eval (.tmp 67) = .agg #[.int .i64 v1, .int .i64 v2, .int .i64 v3, .int .i64 v5] := (h.get ho hdep (i := 16) (d := 67) (by kernel_rfl) rfl)
      have e4 : a.eval (.tmp 69) = .int .i64 v4 := (h.get ho hdep (i := 18) (d := 69) (by kernel_rfl) rfl)
      have e5 : a.eval (.tmp 71) = .bool gnu := (h.get ho hdep (i := 20) (d := 71) (by kernel_rfl) rfl)
      refine wp_run _ ?_ ⟨rfl, keep w (by decide) (Kept.refl _ _)⟩
      have b := build_head w nm ln kd v1 v2 v3 v5 v4 gnu
      simp [execOp, hop, e0, e1, e2, e3, e4, e5, b, Result.andThen, pV]
    · obtain ⟨o', ho', hop, hdst⟩ := pop22
      obtain rfl := same ho' rfl
      have e0 := (h.old (t := 2) (by kernel_rfl)).trans h2
      have e1 := (h.get ho hdep (i := 21) (d := 72) (by kernel_rfl) rfl)
      have hh0 : w.heap[g]? = some (.cells zeroCs 25 (0, 0)) := by rw [getD_flip hun] at hh; exact hh
      refine wp_store9 _ _ hop g e0 nm ln kd v1 v2 v3 v5 v4 gnu e1 hh0 (fun w' hw' hk' => ⟨rfl, hk.trans hk', ?_⟩)
      rw [listed_get hlt, if_pos rfl, if_pos rfl, hC]
      exact hw'
    · obtain ⟨o', ho', hop, hdst⟩ := pop23
      obtain rfl := same ho' rfl
      exact wp_move _ _ (Or.inr hop) rfl ⟨rfl, keep w (by decide) (Kept.refl _ _)⟩
  · intro listed a w h hall
    have all : ∀ j, j < 24 → listed.getD j false = true := fun j hj => hall j (by rw [parse_size]; exact hj)
    obtain ⟨hk, hh⟩ := h.wd
    rw [all 22 (by omega), if_pos rfl] at hh
    obtain ⟨o', ho', _, hdst⟩ := pop23
    exact hQ a w h.df ((h.old (t := 2) (by kernel_rfl)).trans h2) (h.done 23 o' 3 ho' hdst (all 23 (by omega))) hh hk
end Go.Proofs.YtdnelijkhinpcabDoor.Head
