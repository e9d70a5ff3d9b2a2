/- Layer block's sources: what a source is in memory; reader.left, chunk. -/
import Derived.Test.YtindibabpfdljaaDoorKept
namespace Go.Proofs.YtindibabpfdljaaDoor.Block
open Go.ChangeShapes Go.WideShapes Go.ChangeAt Go.RowKit Go.Proofs.YtindibabpfdljaaDoor.Base Go.Proofs.YtindibabpfdljaaDoor.Byt Go.Lib
set_option linter.unusedVariables false

/-- what stays of a source: its bytes, its chunks -/
structure Sv where
  p : Option Addr
  n : Nat
  c : Nat
  bs : List UInt8
  q : Option Addr
  m : Nat
  d : Nat
  zs : List Int

/-- block g is a source of which a bytes were read; chunk t is next -/
structure Src (w : World) (g : Nat) (S : Sv) (a t : Nat) : Prop where
  blk : w.heap[g]? = some (.cells #[.slice S.p S.n S.c, .int .i64 a, .slice S.q S.m S.d, .int .i64 t] 54 (0, 0))
  bat : BAt w S.p S.n S.bs
  len : S.bs.length = S.n
  nc : S.n ≤ S.c
  cm : S.c ≤ maxLen
  big : S.n ≤ 140737488351232
  le : a ≤ S.n
  iat : IAt w S.q S.m S.zs
  zlen : S.zs.length = S.m
  md : S.m ≤ S.d
  dm : S.d ≤ maxLen
  turn : 0 < S.m → t < S.m
  turn0 : S.m = 0 → t = 0

theorem cells_at {w : World} {g : Nat} {cs : Array Value} {e : TypeId} (h : w.heap[g]? = some (.cells cs e (0, 0))) (i : Nat) : w.cell? ⟨g, i, none⟩ = cs[i]? := by
  simp [World.cell?, h]
theorem cells_frozen {w : World} {g : Nat} {cs : Array Value} {e : TypeId} (h : w.heap[g]? = some (.cells cs e (0, 0))) (i : Nat) : w.frozen? ⟨g, i, none⟩ = false := by
  simp [World.frozen?, h]
theorem cells_set {w : World} {g : Nat} {cs : Array Value} {e : TypeId} (h : w.heap[g]? = some (.cells cs e (0, 0))) (i : Nat) (v : Value) (hi : i < cs.size) : (w.setCell ⟨g, i, none⟩ v).heap[g]? = some (.cells (cs.set i v hi) e (0, 0)) := by
  simp only [World.setCell, Array.getElem?_modify, if_true, h]
  simp [Array.setIfInBounds, hi]
section
variable {w w' : World} {g a t : Nat} {S : Sv}
theorem Src.lt (h : Src w g S a t) : g < w.heap.size := (Array.getElem?_eq_some_iff.1 h.blk).1
theorem Src.c0 (h : Src w g S a t) : w.cell? ⟨g, 0, none⟩ = some (.slice S.p S.n S.c) := cells_at h.blk 0
theorem Src.c1 (h : Src w g S a t) : w.cell? ⟨g, 1, none⟩ = some (.int .i64 a) := cells_at h.blk 1
theorem Src.c2 (h : Src w g S a t) : w.cell? ⟨g, 2, none⟩ = some (.slice S.q S.m S.d) := cells_at h.blk 2
theorem Src.c3 (h : Src w g S a t) : w.cell? ⟨g, 3, none⟩ = some (.int .i64 t) := cells_at h.blk 3
/-- its bytes and its numbers lie elsewhere -/
theorem Src.offp (h : Src w g S a t) : 0 < S.n → ∀ x, S.p = some x → x.block ≠ g := fun h0 x hx e => by
  obtain ⟨b, o, hp, hc⟩ := h.bat h0
  rw [hp] at hx; cases hx
  have h1 := hc 0 h0
  change b = g at e
  subst e
  rw [cells_at h.blk] at h1
  match o, h1 with
  | 0, h1 => simp at h1
  | 1, h1 => simp at h1
  | 2, h1 => simp at h1
  | 3, h1 => simp at h1
  | o + 4, h1 => simp at h1
/-- it is a source yet, where its block and what it leads to were kept -/
theorem Src.kept {T : Nat → Prop} (h : Src w g S a t) (hk : Kept T w w') (hg : ¬ T g) (hp : 0 < S.n → ∀ x, S.p = some x → ¬ T x.block) (hq : 0 < S.m → ∀ x, S.q = some x → ¬ T x.block) : Src w' g S a t :=
  ⟨hk.some_ h.blk hg, h.bat.kept hk hp, h.len, h.nc, h.cm, h.big, h.le, h.iat.kept hk hq, h.zlen, h.md, h.dm, h.turn, h.turn0⟩
theorem Src.kept0 (h : Src w g S a t) (hk : Kept noneB w w') : Src w' g S a t := h.kept hk id (fun _ _ _ => id) (fun _ _ _ => id)
end
/-- its numbers lie elsewhere -/
def Sv.off (S : Sv) (g : Nat) : Prop := 0 < S.m → ∀ x, S.q = some x → x.block ≠ g
section
variable {w w' : World} {g a t : Nat} {S : Sv}
theorem Src.at_ (h : Src w g S a t) (ho : S.off g) (b : Nat) (hb : b ≤ S.n) : Src (w.setCell ⟨g, 1, none⟩ (.int .i64 b)) g S b t := by
  have hk : Kept (oneB g) w (w.setCell ⟨g, 1, none⟩ (.int .i64 b)) := (Kept.refl (oneB g) w).setCell (Or.inr (show oneB g g from rfl)) _
  exact ⟨cells_set h.blk 1 _ (by simp), h.bat.kept hk h.offp, h.len, h.nc, h.cm, h.big, hb, h.iat.kept hk ho, h.zlen, h.md, h.dm, h.turn, h.turn0⟩
theorem Src.turn_ (h : Src w g S a t) (ho : S.off g) (b : Nat) (h1 : 0 < S.m → b < S.m) (h2 : S.m = 0 → b = 0) : Src (w.setCell ⟨g, 3, none⟩ (.int .i64 b)) g S a b := by
  have hk : Kept (oneB g) w (w.setCell ⟨g, 3, none⟩ (.int .i64 b)) := (Kept.refl (oneB g) w).setCell (Or.inr (show oneB g g from rfl)) _
  exact ⟨cells_set h.blk 3 _ (by simp), h.bat.kept hk h.offp, h.len, h.nc, h.cm, h.big, h.le, h.iat.kept hk ho, h.zlen, h.md, h.dm, h1, h2⟩
end

/-- what is left, as a value -/
def leftVal (S : Sv) (a : Nat) : Value := .slice (if S.c = a then S.p else S.p.map (·.add a)) (S.n - a) (S.c - a)
theorem left_any (w : World) (g a t : Nat) (S : Sv) (h : Src w g S a t) :
    Calls Tryd.prog 21 #[.pointer (some ⟨g, 0, none⟩)] w fun e w' => e = .returned (leftVal S a) ∧ Src w' g S a t ∧ Kept noneB w w' := by
  have h0 := h.c0
  have h1 := h.c1
  have hm := h.cm
  have hnc := h.nc
  have hle := h.le
  unfold maxLen at hm
  have H := Lib.hid h
  unfold leftVal
  clear h
  obtain ⟨p, n, c, bs, q, m, d, zs⟩ := S
  dsimp only at h0 hm hnc hle ⊢
  by_cases hca : c = a
  · subst hca
    go_enter Tryd.func21, Tryd.ntmps21
    go_wp2
    go_quiet (fail)
    go_wp2
    go_ret
    exact ⟨rfl, H.out.kept0 ((Kept.refl _ _).drewN _), (Kept.refl _ _).drewN _⟩
  · go_enter Tryd.func21, Tryd.ntmps21
    go_wp2
    go_quiet (fail)
    go_wp2
    go_ret
    exact ⟨rfl, H.out.kept0 ((Kept.refl _ _).drewN _), (Kept.refl _ _).drewN _⟩
end Go.Proofs.YtindibabpfdljaaDoor.Block
