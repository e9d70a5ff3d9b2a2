/- What the laws of layer attr ask each time. -/
import Derived.Test.YtfmhdkemigpjjaaDoorAttrApply
import Derived.Test.YtfmhdkemigpjjaaDoorRecApp
namespace Go.Proofs.YtfmhdkemigpjjaaDoor.Attr
open Go.ChangeShapes Go.WideShapes Go.ChangeAt Go.RowKit Go.Shelf Go.Proofs.YtfmhdkemigpjjaaDoor.Base Go.Proofs.YtfmhdkemigpjjaaDoor.Byt Go.Proofs.YtfmhdkemigpjjaaDoor.Txt Go.Proofs.YtfmhdkemigpjjaaDoor.Rec Go.Proofs.YtfmhdkemigpjjaaDoor.Bk Go.Proofs.YtfmhdkemigpjjaaDoor.Hp Go.Proofs.YtfmhdkemigpjjaaDoor.Head Go.Lib
set_option linter.unusedVariables false
set_option maxRecDepth 100000

/-- a state that the call itself made; nothing older than w0 has changed -/
def StO (w0 wi : World) (g : Nat) (mb : Option Nat) (F : Glob) : Prop := St wi g mb F ∧ w0.heap.size ≤ g ∧ (∀ B, mb = some B → w0.heap.size ≤ B) ∧ Below w0.heap.size w0 wi
section
variable {w0 wi wj : World} {g : Nat} {mb : Option Nat} {F : Glob}
theorem StO.below (h : StO w0 wi g mb F) (hb : Below wi.heap.size wi wj) : StO w0 wj g mb F :=
  ⟨h.1.below hb, h.2.1, h.2.2.1, h.2.2.2.trans (hb.mono h.2.2.2.size)⟩
theorem StO.ptr (h : StO w0 wi g mb F) : StP wi (some ⟨g, 0, none⟩) F := h.1.ptr
theorem StO.new (hb : Below w0.heap.size w0 wi) : StO w0 (wi.alloc (.cells #[.map none] 31)) wi.heap.size none noneF :=
  ⟨St.new wi, hb.size, (fun _ h => by cases h), hb.alloc hb.size _⟩
theorem StO.global {rs : RecL} {e : Ending} (h : StO w0 wi g mb F) (hp : GlobPost wi g mb F rs e wj) : e = .returned (.tuple #[]) ∧ ∃ B, StO w0 wj g (some B) (moreF F rs) ∧ Kept (stB g mb) wi wj := by
  obtain ⟨he, B, hs, hk, hB⟩ := hp
  refine ⟨he, B, ⟨hs, h.2.1, ?_, ?_⟩, hk⟩
  · intro B' hB'
    cases hB'
    rcases hB with hB | hB
    · exact h.2.2.1 _ hB
    · exact Nat.le_trans h.2.2.2.size hB
  · exact h.2.2.2.trans (hk.below h.2.2.2.size (fun k hk => by
      rcases hk with rfl | hk
      · exact h.2.1
      · exact h.2.2.1 _ hk))
/-- a row of records lies in no block of a state -/
theorem own_off {base : Nat} {v : Value} {n : Nat} {xs : List Value} (h : St wi g mb F) (ho : wi.ownsRow base 43 2 v n xs) {k : Nat} (hk : v.ownBlock = some k) : ¬ stB g mb k := by
  rcases ho.2 with ⟨rfl, _⟩ | ⟨b, cap, cur, rfl, _, hb, _⟩
  · cases hk
  · have hkb : b = k := by simpa [Value.ownBlock] using hk
    subst hkb
    rintro (e | e)
    · subst e
      have h1 := h.1
      unfold Blk at h1
      rw [hb] at h1
      simp only [Option.some.injEq, Obj.cells.injEq] at h1
      exact absurd h1.2.1 (by decide)
    · obtain ⟨es, clock, hm, _⟩ := h.2.2 _ e
      rw [hb] at hm
      cases hm
end
/-- a block of cells is none of a state's, but its own -/
theorem off_cell {wi : World} {g b : Nat} {mb : Option Nat} {F : Glob} {t : TypeId} {cs : Array Value} (h : St wi g mb F) (hb : Blk wi b t cs) (hne : b ≠ g) : ¬ stB g mb b := by
  rintro (e | e)
  · exact hne e
  · obtain ⟨es, clock, hm, _⟩ := h.2.2 _ e
    unfold Blk at hb
    rw [hb] at hm
    cases hm
theorem blk_ne {w : World} {a b : Nat} {t t' : TypeId} {cs cs' : Array Value} (h : Blk w a t cs) (h' : Blk w b t' cs') (hne : t ≠ t') : a ≠ b := fun e => by
  subst e
  unfold Blk at h h'
  rw [h] at h'
  simp only [Option.some.injEq, Obj.cells.injEq] at h'
  exact hne h'.2.1
theorem head9 {w : World} {g : Nat} {h : HeadV} (b : Blk w g 25 (headC h)) : w.cell? ⟨g, 0, none⟩ = some (.string (str h.name)) ∧ w.cell? ⟨g, 1, none⟩ = some (.string (str h.link)) ∧ w.cell? ⟨g, 2, none⟩ = some (.int .u8 (h.kind.toNat : Int)) ∧ w.cell? ⟨g, 3, none⟩ = some (.int .i64 h.mode) ∧
    w.cell? ⟨g, 4, none⟩ = some (.int .i64 h.uid) ∧ w.cell? ⟨g, 5, none⟩ = some (.int .i64 h.gid) ∧ w.cell? ⟨g, 6, none⟩ = some (.int .i64 h.time) ∧ w.cell? ⟨g, 7, none⟩ = some (.int .i64 h.size) ∧ w.cell? ⟨g, 8, none⟩ = some (.bool h.gnu) :=
  ⟨b.cell 0, b.cell 1, b.cell 2, b.cell 3, b.cell 4, b.cell 5, b.cell 6, b.cell 7, b.cell 8⟩
theorem eqH_self (h : HeadV) (w : World) : (binOp .eql 25 (.agg #[.string (str h.name), .string (str h.link), .int .u8 (h.kind.toNat : Int), .int .i64 h.mode, .int .i64 h.uid, .int .i64 h.gid, .int .i64 h.time, .int .i64 h.size, .bool h.gnu]) (.agg #[.string (str h.name), .string (str h.link), .int .u8 (h.kind.toNat : Int), .int .i64 h.mode, .int .i64 h.uid, .int .i64 h.gid, .int .i64 h.time, .int .i64 h.size, .bool h.gnu])).run Tryd.prog w = .ok (.bool true) w := by
  have := eqH h h w
  rw [decide_eq_true rfl] at this
  exact this
theorem headA_eq (x : HeadV × Int) : headA x = .tuple #[.agg #[.string (str x.1.name), .string (str x.1.link), .int .u8 (x.1.kind.toNat : Int), .int .i64 x.1.mode, .int .i64 x.1.uid, .int .i64 x.1.gid, .int .i64 x.1.time, .int .i64 x.1.size, .bool x.1.gnu], .int .i64 x.2] := rfl
/-- a row of the call's own, behind a step that keeps what was there -/
theorem own_below {w w' : World} {B : Nat} {e : TypeId} {k : Nat} {v : Value} {n : Nat} {xs : List Value} (h : w.ownsRow B e k v n xs) (hb : Below w.heap.size w w') : w'.ownsRow B e k v n xs := by
  refine ⟨h.1, ?_⟩
  rcases h.2 with h2 | ⟨g, cap, cur, rfl, h3, h4, h5⟩
  · exact .inl h2
  · exact .inr ⟨g, cap, cur, rfl, h3, by rw [hb.block g (Array.getElem?_eq_some_iff.1 h4).1]; exact h4, h5⟩
/-- a row of the call's own that grows: what was there ahead of it is as it was -/
theorem below_own {w wi wj : World} {base n : Nat} {v : Value} {e : TypeId} {k : Nat} {xs : List Value} (hb : Below w.heap.size w wi) (ho : wi.ownsRow base e k v n xs) (hbase : w.heap.size ≤ base) (hg : wi.grownBy wj v.ownBlock) : Below w.heap.size w wj :=
  hb.grown hg hb.size (fun b hb' => by
    rcases ho.2 with ⟨rfl, _⟩ | ⟨g, cp, cur, rfl, hb2, _⟩
    · cases hb'
    · cases hb'; exact Nat.le_trans hbase hb2)
/-- one record, made by the call -/
theorem recs_one (w : World) (a b : List UInt8) : RecsAt (w.alloc (.cells #[.string (str a), .string (str b)] 43)) (some ⟨w.heap.size, 0, none⟩) 1 [(a, b)] := by
  refine ⟨rfl, fun _ => ⟨w.heap.size, 0, rfl, by simp, fun i hi => ?_⟩⟩
  obtain rfl : i = 0 := by omega
  exact cells2 w _ _ _
theorem recs_nil (w : World) (p : Option Addr) : RecsAt w p 0 [] := ⟨rfl, fun h => absurd h (by omega)⟩
theorem valueD_len {gs rs : RecL} {k : List UInt8} {m : Nat} (h1 : ∀ r ∈ gs, r.2.length ≤ m) (h2 : ∀ r ∈ rs, r.2.length ≤ m) : (valueD (lastD gs) rs k).length ≤ m := by
  unfold valueD
  cases hr : lastD rs k with
  | some v =>
    obtain ⟨r, hm, _, rfl⟩ := lastD_mem hr
    exact h2 r hm
  | none =>
    cases hg : lastD gs k with
    | some v =>
      obtain ⟨r, hm, _, rfl⟩ := lastD_mem hg
      exact h1 r hm
    | none => simp
theorem lastD_nil : lastD [] = noneF := rfl
def hN : HeadV := ⟨[110], [], 0, 0, 0, 0, 0, 0, false⟩
theorem ans_a : applyD (moreF noneF [(keyT 0, [53])]) [(keyT 4, [112])] hN = (⟨[112], [], 0, 0, 5, 0, 0, 0, false⟩, 0) := by decide +kernel
theorem ans_b : applyD (moreF noneF [(keyT 0, [53])]) [(keyT 0, [])] zeroH = (zeroH, 0) := by decide +kernel
theorem ans_c : valueD (moreF noneF [(keyT 0, [53])]) [] (keyT 0) = [53] := by decide +kernel
theorem ans_l {rs : RecL} (h : ∀ r ∈ rs, r.2.length ≤ 140737488351232) (i : Nat) : (valueD (moreF noneF [(keyT 0, [53])]) rs (keyT i)).length ≤ 140737488351232 := by
  rw [moreF_none]
  exact valueD_len (by simp) h
set_option maxHeartbeats 4000000 in
theorem ans07_any (w : World) :
    Calls Tryd.prog 8 #[] w fun e w' => e = .returned (.bool true) ∧ Below w.heap.size w w' := by
  go_enter Tryd.func8, Tryd.ntmps8
  go_wp2_with fail
  obtain ⟨W0, hW0⟩ : ∃ W0, (w.alloc (.cells #[.map none] 31)).alloc (.cells #[.string (str (keyT 0)), .string (str [53])] 43) = W0 := ⟨_, rfl⟩
  have H0 : Hid (StO w W0 w.heap.size none noneF ∧ RecsAt W0 (some ⟨w.heap.size + 1, 0, none⟩) 1 [(keyT 0, [53])]) := Lib.hid (by
    rw [← hW0]
    have hr := recs_one (w.alloc (.cells #[.map none] 31)) (keyT 0) [53]
    rw [World.size_alloc] at hr
    exact ⟨(StO.new (Below.refl _ w)).below ((Below.refl _ _).alloc (Nat.le_refl _) _), hr⟩)
  have hW0' : (w.alloc (.cells #[.map none] 31)).alloc (.cells #[.string ⟨#[117, 105, 100]⟩, .string ⟨#[53]⟩] 43) = W0 := hW0
  rw [hW0']
  clear hW0 hW0'
  refine (show Calls _ _ _ _ (GlobPost W0 w.heap.size none noneF [(keyT 0, [53])]) from global_any _ _ _ _ _ _ _ _ H0.out.1.1 (by omega) H0.out.2).mono ?_
  intro e w1 hp
  obtain ⟨rfl, B, hs1, -⟩ := H0.out.1.global hp
  have H1 := Lib.hid hs1
  clear hp hs1 H0
  go_wp2_with fail
  have H2 := Lib.hid (H1.out.below ((Below.refl _ w1).alloc (Nat.le_refl _) (.cells #[.string (str (keyT 4)), .string (str [112])] 43)))
  refine (apply_any _ _ hN _ 1 1 [(keyT 4, [112])] _ H2.out.ptr (by omega) (recs_one w1 (keyT 4) [112]) (fun i _ => ans_l (by simp) i)).mono ?_
  rintro e w2 ⟨rfl, hb⟩
  rw [ans_a, show headA (⟨[112], [], 0, 0, 5, 0, 0, 0, false⟩, 0) = .tuple #[.agg #[.string ⟨#[112]⟩, .string ⟨#[]⟩, .int .u8 0, .int .i64 0, .int .i64 5, .int .i64 0, .int .i64 0, .int .i64 0, .bool false], .int .i64 0] from rfl]
  have H3 := Lib.hid (H2.out.below hb)
  clear hb H2 H1
  go_wp2_with fail
  obtain ⟨A, hA⟩ : ∃ A, w2.heap.size = A := ⟨_, rfl⟩
  obtain ⟨W3, hW3⟩ : ∃ W3, (w2.alloc (.cells #[.string ⟨#[112]⟩, .string ⟨#[]⟩, .int .u8 0, .int .i64 0, .int .i64 5, .int .i64 0, .int .i64 0, .int .i64 0, .bool false] 25)) = W3 := ⟨_, rfl⟩
  have H4 : Hid (StO w W3 w.heap.size (some B) (moreF noneF [(keyT 0, [53])]) ∧ Blk W3 A 25 #[.string ⟨#[112]⟩, .string ⟨#[]⟩, .int .u8 0, .int .i64 0, .int .i64 5, .int .i64 0, .int .i64 0, .int .i64 0, .bool false] ∧ W3.heap.size = A + 1) := Lib.hid (by
    rw [← hW3, ← hA]
    exact ⟨H3.out.below ((Below.refl _ _).alloc (Nat.le_refl _) _), Blk.new _ _ _, by simp⟩)
  rw [hW3]
  rw [show w2.heap.size + 1 = W3.heap.size by rw [H4.out.2.2, hA], hA]
  clear hW3 hA H3
  refine (apply_any _ _ zeroH _ 1 1 [(keyT 0, [])] _ (H4.out.1.below ((Below.refl _ W3).alloc (Nat.le_refl _) (.cells #[.string (str (keyT 0)), .string (str [])] 43))).ptr (by omega) (recs_one W3 (keyT 0) []) (fun i _ => ans_l (by simp) i)).mono ?_
  rintro e w4 ⟨rfl, hb⟩
  rw [ans_b, show headA (zeroH, 0) = .tuple #[.agg #[.string ⟨#[]⟩, .string ⟨#[]⟩, .int .u8 0, .int .i64 0, .int .i64 0, .int .i64 0, .int .i64 0, .int .i64 0, .bool false], .int .i64 0] from rfl]
  have hb4 : Below W3.heap.size W3 (w4.alloc (.cells #[.string ⟨#[]⟩, .string ⟨#[]⟩, .int .u8 0, .int .i64 0, .int .i64 0, .int .i64 0, .int .i64 0, .int .i64 0, .bool false] 25)) :=
    (((Below.refl _ W3).alloc (Nat.le_refl _) _).trans (hb.mono (by simp))).alloc (by have := hb.size; rw [World.size_alloc] at this; omega) _
  have bA := H4.out.2.1.below hb4 H4.out.2.1.lt
  have bB := Blk.new w4 25 #[.string ⟨#[]⟩, .string ⟨#[]⟩, .int .u8 0, .int .i64 0, .int .i64 0, .int .i64 0, .int .i64 0, .int .i64 0, .bool false]
  have a0 := bA.cell 0
  have a4 := bA.cell 4
  have b4 := bB.cell 4
  simp only [List.getElem?_toArray, List.getElem?_cons_zero, List.getElem?_cons_succ] at a0 a4 b4
  have H5 := Lib.hid (H4.out.1.below hb4)
  clear hb hb4 bA bB H4
  go_wp2_with fail
  refine (value_any _ _ (keyT 0) none 0 0 [] _ H5.out.ptr (by omega) (recs_nil _ _)).mono ?_
  rintro e w5 ⟨rfl, hb⟩
  rw [ans_c]
  have h53 : ((str [53]).toList == [53]) = true := by rw [str_toList]; rfl
  have H6 := Lib.hid (H5.out.below hb)
  clear hb H5
  go_wp2
  go_ret
  exact ⟨rfl, H6.out.2.2.2⟩
end Go.Proofs.YtfmhdkemigpjjaaDoor.Attr
