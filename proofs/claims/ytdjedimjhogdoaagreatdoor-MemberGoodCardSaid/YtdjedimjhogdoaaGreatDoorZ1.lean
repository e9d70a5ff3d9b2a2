import Derived.Lib.SlTrimSet
import Derived.Lib.Bytes
import Derived.Test.YtdjedimjhogdoaaGreatDoorRows
import Derived.WalkKit
import Derived.ProofKit
import Derived.Lib.Hide
import Derived.IntWalk
import Derived.WalkSmall
import Derived.Outline
import Derived.Deep.QuietTactic
import Derived.BigQuiet
import Derived.Laws.BytesArg
import Derived.Laws.OwnMore
import Derived.OwnWalk
import Derived.Deep.Draws
import Derived.Lib.IndexLaws
import Derived.Lib.Strings
import Derived.Laws.Strings3
import Derived.MapKept
import Derived.Laws.StructEq
import Derived.Laws.CopyOwn
import Derived.Lib.ValidU
section
namespace Go.Proofs.YtdjedimjhogdoaaGreatDoor.Fp
open Go.Lib

/-- the number that digits of a base say, behind s; none where a byte is no digit or the number passes the greatest -/
def digF (base zero : Int) : List UInt8 → Int → Option Int
  | [], s => some s
  | c :: l, s => if zero ≤ (c.toNat : Int) ∧ (c.toNat : Int) < zero + base ∧ s * base + ((c.toNat : Int) - zero) ≤ 4611686018427387904 then digF base zero l (s * base + ((c.toNat : Int) - zero)) else none
/-- the same, as the document's own answer reckons it: the bound is asked one digit late -/
def refO (base zero lim : Int) : List UInt8 → Int → Int × Bool
  | [], s => (s, decide (s ≤ 4611686018427387904))
  | c :: l, s => if zero ≤ (c.toNat : Int) ∧ (c.toNat : Int) < zero + base ∧ s ≤ lim then refO base zero lim l (s * base + ((c.toNat : Int) - zero)) else (0, false)
def okI : Option Int → Bool
  | some _ => true
  | none => false
def valI : Option Int → Int
  | some s => s
  | none => 0

theorem refO_over (base zero lim : Int) (hl : lim ≤ 4611686018427387904) : ∀ (l : List UInt8) (s : Int), 4611686018427387904 < s → (refO base zero lim l s).2 = false
  | [], s, h => by simp only [refO, decide_eq_false_iff_not]; omega
  | c :: l, s, h => by rw [refO, if_neg (by omega)]
theorem refO_dig8 : ∀ (l : List UInt8) (s : Int), 0 ≤ s → s ≤ 4611686018427387904 →
    (refO 8 48 576460752303423488 l s).2 = okI (digF 8 48 l s) ∧ (okI (digF 8 48 l s) = true → (refO 8 48 576460752303423488 l s).1 = valI (digF 8 48 l s))
  | [], s, h0, h1 => by simp [refO, digF, okI, valI, h1]
  | c :: l, s, h0, h1 => by
    by_cases h : 48 ≤ (c.toNat : Int) ∧ (c.toNat : Int) < 48 + 8 ∧ s * 8 + ((c.toNat : Int) - 48) ≤ 4611686018427387904
    · rw [digF, if_pos h, refO, if_pos (by omega)]
      exact refO_dig8 l _ (by omega) h.2.2
    · rw [digF, if_neg h]
      refine ⟨?_, fun h => by simp [okI] at h⟩
      show (refO 8 48 576460752303423488 (c :: l) s).2 = false
      by_cases h' : 48 ≤ (c.toNat : Int) ∧ (c.toNat : Int) < 48 + 8 ∧ s ≤ 576460752303423488
      · rw [refO, if_pos h']; exact refO_over _ _ _ (by omega) l _ (by omega)
      · rw [refO, if_neg h']
theorem refO_dig256 : ∀ (l : List UInt8) (s : Int), 0 ≤ s → s ≤ 4611686018427387904 →
    (refO 256 0 18014398509481984 l s).2 = okI (digF 256 0 l s) ∧ (okI (digF 256 0 l s) = true → (refO 256 0 18014398509481984 l s).1 = valI (digF 256 0 l s))
  | [], s, h0, h1 => by simp [refO, digF, okI, valI, h1]
  | c :: l, s, h0, h1 => by
    by_cases h : 0 ≤ (c.toNat : Int) ∧ (c.toNat : Int) < 0 + 256 ∧ s * 256 + ((c.toNat : Int) - 0) ≤ 4611686018427387904
    · rw [digF, if_pos h, refO, if_pos (by omega)]
      exact refO_dig256 l _ (by omega) h.2.2
    · rw [digF, if_neg h]
      refine ⟨?_, fun h => by simp [okI] at h⟩
      show (refO 256 0 18014398509481984 (c :: l) s).2 = false
      by_cases h' : 0 ≤ (c.toNat : Int) ∧ (c.toNat : Int) < 0 + 256 ∧ s ≤ 18014398509481984
      · rw [refO, if_pos h']; exact refO_over _ _ _ (by omega) l _ (by omega)
      · rw [refO, if_neg h']
theorem digF_bd (base zero : Int) : ∀ (l : List UInt8) (s r : Int), 0 ≤ s → s ≤ 4611686018427387904 → 0 ≤ base → digF base zero l s = some r → 0 ≤ r ∧ r ≤ 4611686018427387904
  | [], s, r, h0, h1, _, h => by simp [digF] at h; omega
  | c :: l, s, r, h0, h1, hb, h => by
    rw [digF] at h
    split at h
    · rename_i hc
      have := Int.mul_nonneg h0 hb
      exact digF_bd base zero l _ r (by omega) hc.2.2 hb h
    · cases h
theorem digF_step (base zero : Int) (zs : List UInt8) (k : Nat) (s : Int) (h : k < zs.length) (hc : zero ≤ ((zs.getD k 0).toNat : Int) ∧ ((zs.getD k 0).toNat : Int) < zero + base ∧ s * base + (((zs.getD k 0).toNat : Int) - zero) ≤ 4611686018427387904) :
    digF base zero (zs.drop k) s = digF base zero (zs.drop (k + 1)) (s * base + (((zs.getD k 0).toNat : Int) - zero)) := by
  rw [List.drop_eq_getElem_cons h, digF]
  have e : zs[k] = zs.getD k 0 := by simp [List.getD, h]
  rw [e, if_pos hc]
theorem digF_stop (base zero : Int) (zs : List UInt8) (k : Nat) (s : Int) (h : k < zs.length) (hc : ¬ (zero ≤ ((zs.getD k 0).toNat : Int) ∧ ((zs.getD k 0).toNat : Int) < zero + base ∧ s * base + (((zs.getD k 0).toNat : Int) - zero) ≤ 4611686018427387904)) :
    digF base zero (zs.drop k) s = none := by
  rw [List.drop_eq_getElem_cons h, digF]
  have e : zs[k] = zs.getD k 0 := by simp [List.getD, h]
  rw [e, if_neg hc]
theorem refO_step (base zero lim : Int) (zs : List UInt8) (k : Nat) (s : Int) (h : k < zs.length) (hc : zero ≤ ((zs.getD k 0).toNat : Int) ∧ ((zs.getD k 0).toNat : Int) < zero + base ∧ s ≤ lim) :
    refO base zero lim (zs.drop k) s = refO base zero lim (zs.drop (k + 1)) (s * base + (((zs.getD k 0).toNat : Int) - zero)) := by
  rw [List.drop_eq_getElem_cons h, refO]
  have e : zs[k] = zs.getD k 0 := by simp [List.getD, h]
  rw [e, if_pos hc]
theorem refO_stop (base zero lim : Int) (zs : List UInt8) (k : Nat) (s : Int) (h : k < zs.length) (hc : ¬ (zero ≤ ((zs.getD k 0).toNat : Int) ∧ ((zs.getD k 0).toNat : Int) < zero + base ∧ s ≤ lim)) :
    refO base zero lim (zs.drop k) s = (0, false) := by
  rw [List.drop_eq_getElem_cons h, refO]
  have e : zs[k] = zs.getD k 0 := by simp [List.getD, h]
  rw [e, if_neg hc]
theorem digF_append (base zero : Int) : ∀ (l r : List UInt8) (s : Int), digF base zero (l ++ r) s = (digF base zero l s).bind (digF base zero r)
  | [], r, s => by simp [digF]
  | c :: l, r, s => by
    rw [List.cons_append, digF, digF]
    split
    · exact digF_append base zero l r _
    · rfl

/-- so many digits of a number, the highest first -/
def putD (base zero : Int) : Nat → Int → List Int
  | 0, _ => []
  | k + 1, n => putD base zero k (n / base) ++ [zero + n % base]
/-- what is left of it -/
def restD (base : Int) : Nat → Int → Int
  | 0, n => n
  | k + 1, n => restD base k (n / base)
theorem putD_length (base zero : Int) : ∀ (k : Nat) (n : Int), (putD base zero k n).length = k
  | 0, _ => rfl
  | k + 1, n => by rw [putD, List.length_append, putD_length base zero k]; rfl
theorem putD_bd (base zero : Int) (hb : 0 < base) : ∀ (k : Nat) (n : Int), ∀ x ∈ putD base zero k n, zero ≤ x ∧ x < zero + base
  | 0, _, x, h => by simp [putD] at h
  | k + 1, n, x, h => by
    rw [putD, List.mem_append] at h
    rcases h with h | h
    · exact putD_bd base zero hb k _ x h
    · have h1 := Int.emod_nonneg n (show base ≠ 0 by omega)
      have h2 := Int.emod_lt_of_pos n hb
      simp only [List.mem_cons, List.mem_nil_iff, or_false] at h
      omega
theorem restD_nonneg (base : Int) (hb : 0 < base) : ∀ (k : Nat) (n : Int), 0 ≤ n → 0 ≤ restD base k n
  | 0, _, h => h
  | k + 1, n, h => restD_nonneg base hb k _ (Int.ediv_nonneg h (by omega))
theorem bytesOf_append (a b : List Int) : bytesOf (a ++ b) = bytesOf a ++ bytesOf b := by simp [bytesOf]
theorem byte_toNat (x : Int) (h0 : 0 ≤ x) (h1 : x < 256) : ((UInt8.ofNat x.toNat).toNat : Int) = x := by
  rw [UInt8.toNat_ofNat']; omega
/-- digits that are written are read again -/
theorem digF_putD (base zero : Int) (hb : 0 < base) (hz : 0 ≤ zero) (hzb : zero + base ≤ 256) : ∀ (k : Nat) (n : Int), 0 ≤ n → n ≤ 4611686018427387904 → restD base k n = 0 → digF base zero (bytesOf (putD base zero k n)) 0 = some n
  | 0, n, _, _, h => by simp only [restD] at h; subst h; rfl
  | k + 1, n, h0, h1, h => by
    have e1 := Int.emod_nonneg n (show base ≠ 0 by omega)
    have e2 := Int.emod_lt_of_pos n hb
    have e3 : n / base * base + n % base = n := by rw [Int.mul_comm]; exact Int.mul_ediv_add_emod n base
    have e4 : n / base ≤ n := Int.ediv_le_self base h0
    rw [putD, bytesOf_append, digF_append, digF_putD base zero hb hz hzb k (n / base) (Int.ediv_nonneg h0 (by omega)) (by omega) h]
    show digF base zero [UInt8.ofNat (zero + n % base).toNat] (n / base) = some n
    rw [digF, byte_toNat _ (by omega) (by omega), if_pos (by refine ⟨by omega, by omega, ?_⟩; rw [show zero + n % base - zero = n % base by omega, e3]; exact h1), digF,
      show zero + n % base - zero = n % base by omega, e3]
/-- the bytes of a number in a field so wide; none: it does not fit -/
def putF (n wide : Int) : Option (List Int) :=
  if 0 ≤ n ∧ n ≤ 4611686018427387904 ∧ 2 ≤ wide ∧ wide ≤ 100 then
    if restD 8 (wide - 1).toNat n = 0 then some (putD 8 48 (wide - 1).toNat n ++ [0])
    else if restD 256 (wide - 1).toNat n = 0 then some (128 :: putD 256 0 (wide - 1).toNat n) else none
  else none
/-- the number of a field -/
def parseF : List UInt8 → Option Int
  | [] => none
  | c :: l => if (c.toNat : Int) = 128 then digF 256 0 l 0 else digF 8 48 (trimRightS (trimLeftS (c :: l) [32]) [32, 0]) 0
theorem putF_bd {n wide : Int} {l : List Int} (h : putF n wide = some l) : ∀ x ∈ l, 0 ≤ x ∧ x < 256 := by
  unfold putF at h
  split at h
  · split at h
    · cases h
      intro x hx
      rw [List.mem_append] at hx
      rcases hx with hx | hx
      · have := putD_bd 8 48 (by omega) _ _ x hx; omega
      · simp at hx; omega
    · split at h
      · cases h
        intro x hx
        rw [List.mem_cons] at hx
        rcases hx with hx | hx
        · omega
        · have := putD_bd 256 0 (by omega) _ _ x hx; omega
      · cases h
  · cases h
theorem putF_length {n wide : Int} {l : List Int} (h : putF n wide = some l) : (l.length : Int) = wide ∧ 2 ≤ wide ∧ wide ≤ 100 ∧ 0 ≤ n ∧ n ≤ 4611686018427387904 := by
  unfold putF at h
  split at h
  · rename_i hc
    split at h
    · cases h; simp [putD_length]; omega
    · split at h
      · cases h; simp [putD_length]; omega
      · cases h
  · cases h
theorem trim_digits (l : List UInt8) (d : List UInt8) (b1 b2 : List UInt8) (h1 : ∀ x ∈ b1, x = 32) (h2 : ∀ x ∈ b2, x = 32 ∨ x = 0) (hl : l = b1 ++ d ++ b2) (hd : ∀ x ∈ d, x ≠ 32 ∧ x ≠ 0) (hne : d ≠ []) :
    trimRightS (trimLeftS l [32]) [32, 0] = d := by
  have e1 : trimLeftS l [32] = d ++ b2 := by
    subst hl
    unfold trimLeftS
    rw [List.append_assoc]
    induction b1 with
    | nil =>
      cases d with
      | nil => exact absurd rfl hne
      | cons c t =>
        have := (hd c (List.mem_cons_self ..)).1
        rw [List.nil_append, List.cons_append, List.dropWhile_cons, if_neg (by simp [this])]
    | cons x t ih =>
      have hx := h1 x (List.mem_cons_self ..)
      rw [List.cons_append, List.dropWhile_cons, if_pos (by simp [hx])]
      exact ih fun y hy => h1 y (List.mem_cons_of_mem _ hy)
  rw [e1]
  unfold trimRightS
  rw [List.reverse_append]
  have e2 : ∀ (a b : List UInt8), (∀ x ∈ a, x = 32 ∨ x = 0) → (∀ x ∈ b.head?, x ≠ 32 ∧ x ≠ 0) → (a ++ b).dropWhile ([32, 0].contains ·) = b := by
    intro a b ha hb
    induction a with
    | nil =>
      cases b with
      | nil => rfl
      | cons c t =>
        have := hb c (by simp)
        rw [List.nil_append, List.dropWhile_cons, if_neg (by simp [this.1, this.2])]
    | cons x t ih =>
      have hx := ha x (List.mem_cons_self ..)
      rw [List.cons_append, List.dropWhile_cons, if_pos (by rcases hx with rfl | rfl <;> simp)]
      exact ih fun y hy => ha y (List.mem_cons_of_mem _ hy)
  rw [e2 b2.reverse d.reverse (fun x hx => h2 x (List.mem_reverse.1 hx)) (fun x hx => hd x (by rw [← List.mem_reverse]; exact List.mem_of_mem_head? hx)), List.reverse_reverse]
theorem bytesOf_mem {l : List Int} {y : UInt8} (h : y ∈ bytesOf l) : ∃ x ∈ l, y = UInt8.ofNat x.toNat := by
  unfold bytesOf at h
  obtain ⟨x, hx, rfl⟩ := List.mem_map.1 h
  exact ⟨x, hx, rfl⟩
theorem octal_byte {x : Int} (h0 : 48 ≤ x) (h1 : x < 56) : UInt8.ofNat x.toNat ≠ 32 ∧ UInt8.ofNat x.toNat ≠ 0 := by
  have e := byte_toNat x (by omega) (by omega)
  constructor <;> intro h <;> rw [h] at e <;> simp at e <;> omega
theorem parseF_octal (n : Int) (k : Nat) (hk : 0 < k) (h0 : 0 ≤ n) (h1 : n ≤ 4611686018427387904) (hr : restD 8 k n = 0) (b1 b2 : List UInt8) (g1 : ∀ x ∈ b1, x = 32) (g2 : ∀ x ∈ b2, x = 32 ∨ x = 0) :
    parseF (b1 ++ bytesOf (putD 8 48 k n) ++ b2) = some n := by
  have hd : ∀ x ∈ bytesOf (putD 8 48 k n), x ≠ 32 ∧ x ≠ 0 := fun y hy => by
    obtain ⟨x, hx, rfl⟩ := bytesOf_mem hy
    have := putD_bd 8 48 (by omega) _ _ x hx
    exact octal_byte (by omega) (by omega)
  have hlen : (bytesOf (putD 8 48 k n)).length = k := by rw [bytesOf_length, putD_length]
  have hne : bytesOf (putD 8 48 k n) ≠ [] := by intro h; rw [h] at hlen; simp at hlen; omega
  have ht := trim_digits _ _ b1 b2 g1 g2 rfl hd hne
  have hdig := digF_putD 8 48 (by omega) (by omega) (by omega) k n h0 h1 hr
  cases hl : b1 ++ bytesOf (putD 8 48 k n) ++ b2 with
  | nil => simp at hl; exact absurd hl.2.1 hne
  | cons c t =>
    have hc : (c.toNat : Int) ≠ 128 := by
      cases b1 with
      | cons x r =>
        simp only [List.cons_append, List.cons.injEq] at hl
        have := g1 x (List.mem_cons_self ..)
        rw [← hl.1, this]; decide
      | nil =>
        cases hb : bytesOf (putD 8 48 k n) with
        | nil => exact absurd hb hne
        | cons y r =>
          rw [hb, List.nil_append, List.cons_append] at hl
          simp only [List.cons.injEq] at hl
          obtain ⟨x, hx, e⟩ := bytesOf_mem (l := putD 8 48 k n) (y := y) (by rw [hb]; exact List.mem_cons_self ..)
          have h2 := putD_bd 8 48 (by omega) _ _ x hx
          rw [← hl.1, e, byte_toNat x (by omega) (by omega)]
          omega
    rw [parseF, if_neg hc, ← hl, ht, hdig]
/-- a field that was written is read again -/
theorem parseF_putF {n wide : Int} {l : List Int} (h : putF n wide = some l) : parseF (bytesOf l) = some n := by
  unfold putF at h
  split at h
  · rename_i hc
    split at h
    · rename_i hr
      cases h
      have := parseF_octal n (wide - 1).toNat (by omega) hc.1 hc.2.1 hr [] [0] (by simp) (by simp)
      rw [List.nil_append] at this
      rw [bytesOf_append]
      exact this
    · split at h
      · rename_i hr
        cases h
        show parseF (UInt8.ofNat (128 : Int).toNat :: bytesOf (putD 256 0 (wide - 1).toNat n)) = some n
        rw [parseF, if_pos (by decide)]
        exact digF_putD 256 0 (by omega) (by omega) (by omega) _ n hc.1 hc.2.1 hr
      · cases h
  · cases h
theorem parseF_bd {bs : List UInt8} {r : Int} (h : parseF bs = some r) : 0 ≤ r ∧ r ≤ 4611686018427387904 := by
  cases bs with
  | nil => simp [parseF] at h
  | cons c l =>
    rw [parseF] at h
    split at h
    · exact digF_bd 256 0 _ 0 r (by omega) (by omega) (by omega) h
    · exact digF_bd 8 48 _ 0 r (by omega) (by omega) (by omega) h
/-- what stands between the blanks, as the two counts have it -/
theorem trim_between (bs : List UInt8) (i j : Nat) (hij : i ≤ j) (hj : j ≤ bs.length) (h1 : ∀ k, k < i → bs.getD k 0 = 32) (h2 : i < j → bs.getD i 0 ≠ 32 ∧ bs.getD (j - 1) 0 ≠ 32 ∧ bs.getD (j - 1) 0 ≠ 0)
    (h3 : ∀ k, j ≤ k → k < bs.length → bs.getD k 0 = 32 ∨ bs.getD k 0 = 0) (h4 : i < bs.length → bs.getD i 0 ≠ 32) : trimRightS (trimLeftS bs [32]) [32, 0] = (bs.drop i).take (j - i) := by
  have gd : ∀ (k : Nat) (b : UInt8), bs[k]? = some b → bs.getD k 0 = b := fun k b h => by simp [List.getD, h]
  have e1 : trimLeftS bs [32] = bs.drop i := trimLeftS_drop bs [32] i (by omega) (fun k b hk hb => by
      have := h1 k hk; rw [gd k b hb] at this; simp [this]) (fun b hb => by
      have hi : i < bs.length := (List.getElem?_eq_some_iff.1 hb).1
      have := h4 hi; rw [gd i b hb] at this; simp [this])
  rw [e1]
  refine trimRightS_take _ _ (j - i) (by rw [List.length_drop]; omega) (fun k b hk hb => ?_) (fun b hk hb => ?_)
  · rw [List.getElem?_drop] at hb
    have hlt := (List.getElem?_eq_some_iff.1 hb).1
    have := h3 (i + k) (by omega) hlt
    rw [gd _ b hb] at this
    rcases this with h | h <;> simp [h]
  · rw [List.getElem?_drop] at hb
    have := h2 (by omega)
    rw [show i + (j - i - 1) = j - 1 by omega] at hb
    rw [gd _ b hb] at this
    simp [this.2.1, this.2.2]
end Go.Proofs.YtdjedimjhogdoaaGreatDoor.Fp
end
section
namespace Go.Proofs.YtdjedimjhogdoaaGreatDoor.Fp
open Go.Lib
theorem restD_div (base : Int) : ∀ (k : Nat) (n : Int), restD base k (n / base) = restD base k n / base
  | 0, _ => rfl
  | k + 1, n => restD_div base k (n / base)
theorem restD_more (base : Int) (k : Nat) (n : Int) (h : restD base k n = 0) : restD base (k + 1) n = 0 := by
  rw [restD, restD_div, h, Int.zero_ediv]
theorem putF_more {n wide : Int} {l : List Int} (h : putF n wide = some l) (hw : wide ≤ 99) : ∃ l', putF n (wide + 1) = some l' := by
  obtain ⟨_, h2, h3, h0, h1⟩ := putF_length h
  unfold putF at h ⊢
  rw [if_pos ⟨h0, h1, h2, h3⟩] at h
  rw [if_pos ⟨h0, h1, by omega, by omega⟩, show (wide + 1 - 1).toNat = (wide - 1).toNat + 1 by omega]
  split at h
  · rename_i hr
    rw [if_pos (restD_more 8 _ n hr)]
    exact ⟨_, rfl⟩
  · split at h
    · rename_i hr
      split
      · exact ⟨_, rfl⟩
      · rw [if_pos (restD_more 256 _ n hr)]
        exact ⟨_, rfl⟩
    · cases h
theorem putF_head {n wide : Int} {l : List Int} (h : putF n wide = some l) : ∃ x t, l = x :: t ∧ (x = 128 ∨ 48 ≤ x ∧ x < 56) := by
  obtain ⟨_, h2, h3, h0, h1⟩ := putF_length h
  unfold putF at h
  rw [if_pos ⟨h0, h1, h2, h3⟩] at h
  split at h
  · cases h
    cases hd : putD 8 48 (wide - 1).toNat n with
    | nil =>
      have := putD_length 8 48 (wide - 1).toNat n
      rw [hd] at this
      simp at this
      omega
    | cons x t =>
      have := putD_bd 8 48 (by omega) (wide - 1).toNat n x (by rw [hd]; exact List.mem_cons_self ..)
      exact ⟨x, t ++ [0], rfl, .inr (by omega)⟩
  · split at h
    · cases h
      exact ⟨128, _, rfl, .inl rfl⟩
    · cases h
/-- octal digits have room -/
theorem putF_octal {n wide : Int} {l : List Int} (h : putF n wide = some l) (hr : restD 8 (wide - 1).toNat n = 0) : l = putD 8 48 (wide - 1).toNat n ++ [0] := by
  obtain ⟨_, h2, h3, h0, h1⟩ := putF_length h
  unfold putF at h
  rw [if_pos ⟨h0, h1, h2, h3⟩, if_pos hr] at h
  exact (Option.some.inj h).symm
theorem putF_fits {n wide : Int} (h0 : 0 ≤ n) (h1 : n ≤ 4611686018427387904) (h2 : 2 ≤ wide) (h3 : wide ≤ 100) (hr : restD 8 (wide - 1).toNat n = 0) : putF n wide = some (putD 8 48 (wide - 1).toNat n ++ [0]) := by
  rw [putF, if_pos ⟨h0, h1, h2, h3⟩, if_pos hr]
theorem putF_wide {n wide : Int} {l : List Int} (h : putF n wide = some l) (hr : restD 8 (wide - 1).toNat n ≠ 0) : ∃ t, l = 128 :: t := by
  obtain ⟨_, h2, h3, h0, h1⟩ := putF_length h
  unfold putF at h
  rw [if_pos ⟨h0, h1, h2, h3⟩, if_neg hr] at h
  split at h
  · cases h; exact ⟨_, rfl⟩
  · cases h
theorem restD_shift (k : Nat) (n : Int) : restD 8 k n = n / 2 ^ (3 * k) := by
  induction k with
  | zero => simp [restD]
  | succ k ih =>
    rw [restD, restD_div, ih, Int.ediv_ediv_of_nonneg (Int.le_of_lt (Int.pow_pos (by omega)))]
    congr 1
    rw [show 3 * (k + 1) = 3 * k + 3 by omega, Int.pow_add]
    rfl
end Go.Proofs.YtdjedimjhogdoaaGreatDoor.Fp
end
section
namespace Go.Proofs.YtdjedimjhogdoaaGreatDoor.Base
open Go.RowKit Go.ChangeShapes Go.WideShapes
theorem own : ownKnob Tryz.prog.godebug = none := by kernel_rfl
theorem laidOut : laidOutB Tryz.prog = true := by kernel_rfl
/-- what the walk is told of a slice of numbers: it is nil, or it leads to a row of cells -/
def IsRow (k : IntKind) (w : World) (a : Option Addr) (len cap : Nat) (zs : List Int) : Prop :=
  (a = none ∧ len = 0 ∧ cap = 0 ∧ zs = []) ∨
  ∃ x, a = some x ∧ len ≤ cap ∧ cap ≤ maxLen ∧ zs.length = cap ∧ (∀ i, i < zs.length → w.cell? (x.add i) = some (.int k (zs.getD i 0))) ∧ ∀ n ∈ zs, (Lit.int k n).wf = true
theorem wf64 {n : Int} (h : (Lit.int .i64 n).wf = true) : -9223372036854775808 ≤ n ∧ n ≤ 9223372036854775807 := by
  have h1 : IntKind.i64.min = -9223372036854775808 := rfl
  have h2 : IntKind.i64.max = 9223372036854775807 := rfl
  simp only [Lit.wf, Bool.and_eq_true, decide_eq_true_eq] at h
  omega
/-- a slice that is not empty: its place, its numbers, in the walk's words -/
theorem row_at {k : IntKind} {w : World} {a : Option Addr} {len cap : Nat} {zs : List Int} (h : IsRow k w a len cap zs) (hl : 0 < len) :
    ∃ b off, a = some ⟨b, off, none⟩ ∧ len ≤ cap ∧ cap ≤ maxLen ∧ zs.length = cap ∧ b < w.heap.size ∧ (∀ i, i < len → w.cell? ⟨b, off + i, none⟩ = some (.int k ((zs.take len).getD i 0))) ∧ (zs.take len).length = len := by
  rcases h with ⟨_, h, _, _⟩ | ⟨x, rfl, h1, h2, h3, h4, _⟩
  · omega
  · obtain ⟨b, off, spot⟩ := x
    have hspot : spot = none := by simpa [Addr.add] using World.cell?_spot (h4 0 (by omega))
    subst hspot
    refine ⟨b, off, rfl, h1, h2, h3, ?_, ?_, ?_⟩
    · exact World.block_lt_of_cell? w _ (by simpa [Addr.add] using h4 0 (by omega))
    · intro i hi
      rw [← add_plain, h4 i (by omega)]
      simp [List.getD, hi]
    · rw [List.length_take]; omega
end Go.Proofs.YtdjedimjhogdoaaGreatDoor.Base
end
section
namespace Go.Proofs.YtdjedimjhogdoaaGreatDoor.Byt
open Go.ChangeShapes Go.WideShapes Go.ChangeAt Go.RowKit Go.Proofs.YtdjedimjhogdoaaGreatDoor.Base Go.Lib
set_option linter.unusedVariables false

/-- the n bytes at p are bs -/
def BAt (w : World) (p : Option Addr) (n : Nat) (bs : List UInt8) : Prop :=
  0 < n → ∃ b o, p = some ⟨b, o, none⟩ ∧ ∀ i, i < n → w.cell? ⟨b, o + i, none⟩ = some (.int .u8 (bs.getD i 0).toNat)
section
variable {w w' : World} {p : Option Addr} {n : Nat} {bs : List UInt8}
theorem BAt.cell (h : BAt w p n bs) {k : Nat} (hk : k < n) :
    ∃ b o, p = some ⟨b, o, none⟩ ∧ b < w.heap.size ∧ ∀ i, i < n → w.cell? ⟨b, o + i, none⟩ = some (.int .u8 (bs.getD i 0).toNat) := by
  obtain ⟨b, o, rfl, hc⟩ := h (by omega)
  exact ⟨b, o, rfl, World.block_lt_of_cell? _ _ (hc k hk), hc⟩
theorem BAt.below (h : BAt w p n bs) (hb : Below w.heap.size w w') : BAt w' p n bs := fun hn => by
  obtain ⟨b, o, rfl, hbw, hc⟩ := h.cell hn
  exact ⟨b, o, rfl, fun i hi => by rw [hb.cell (p := ⟨b, o + i, none⟩) hbw]; exact hc i hi⟩
theorem BAt.none_ (w : World) (p : Option Addr) : BAt w p 0 [] := fun h => absurd h (by omega)
theorem BAt.alloc (h : BAt w p n bs) (o : Obj) : BAt (w.alloc o) p n bs := h.below ((Below.refl _ _).alloc (Nat.le_refl _) o)
theorem BAt.drop (h : BAt w p n bs) {k c : Nat} (hk : k ≤ n) (hc : n ≤ c) (hl : bs.length = n) : BAt w (if c = k then p else p.map (·.add k)) (n - k) (bs.drop k) := fun hn => by
  obtain ⟨b, o, rfl, hcell⟩ := h (by omega)
  rw [if_neg (by omega)]
  refine ⟨b, o + k, by simp [add_plain], fun i hi => ?_⟩
  rw [Nat.add_assoc, hcell (k + i) (by omega)]
  simp [List.getD]
theorem BAt.take (h : BAt w p n bs) {k : Nat} (hk : k ≤ n) : BAt w p k (bs.take k) := fun hn => by
  obtain ⟨b, o, rfl, hc⟩ := h (by omega)
  exact ⟨b, o, rfl, fun i hi => by rw [hc i (by omega)]; simp [List.getD, hi]⟩
end
theorem u8_bd (x : UInt8) : 0 ≤ (x.toNat : Int) ∧ (x.toNat : Int) ≤ 255 := by have := x.toNat_lt; omega
theorem bytesOf_getD (xs : List Int) (i : Nat) (h : i < xs.length) (hx : ∀ x ∈ xs, 0 ≤ x ∧ x < 256) : (((bytesOf xs).getD i 0).toNat : Int) = xs.getD i 0 := by
  have hm := hx xs[i] (List.getElem_mem h)
  have e : (bytesOf xs).getD i 0 = UInt8.ofNat (xs[i]).toNat := by simp [bytesOf, List.getD, h]
  rw [e, UInt8.toNat_ofNat']
  simp [List.getD, h]
  omega
theorem wf8 {n : Int} (h : (Lit.int .u8 n).wf = true) : 0 ≤ n ∧ n < 256 := by
  have h1 : IntKind.u8.min = 0 := rfl
  have h2 : IntKind.u8.max = 255 := rfl
  simp only [Lit.wf, Bool.and_eq_true, decide_eq_true_eq] at h
  omega
theorem bat_of_ints {w : World} {p : Option Addr} {n : Nat} {xs : List Int} (hn : xs.length = n) (hx : ∀ x ∈ xs, 0 ≤ x ∧ x < 256)
    (h : 0 < n → ∃ b o, p = some ⟨b, o, none⟩ ∧ ∀ i, i < n → w.cell? ⟨b, o + i, none⟩ = some (.int .u8 (xs.getD i 0))) : BAt w p n (bytesOf xs) := fun h0 => by
  obtain ⟨b, o, rfl, hc⟩ := h h0
  exact ⟨b, o, rfl, fun i hi => by rw [hc i hi, bytesOf_getD xs i (by omega) hx]⟩
/-- a list of bytes that came in -/
theorem bat_of_row {w : World} {a : Option Addr} {len cap : Nat} {zs : List Int} (h : IsRow .u8 w a len cap zs) : BAt w a len (bytesOf (zs.take len)) ∧ (bytesOf (zs.take len)).length = len ∧ len ≤ cap ∧ cap ≤ maxLen := by
  have hb : ∀ x ∈ zs.take len, 0 ≤ x ∧ x < 256 := fun x hx => by
    rcases h with ⟨_, _, _, rfl⟩ | ⟨_, _, _, _, _, _, h⟩
    · simp at hx
    · exact wf8 (h x (List.mem_of_mem_take hx))
  have hl : (zs.take len).length = len ∧ len ≤ cap ∧ cap ≤ maxLen := by
    rcases h with ⟨_, rfl, rfl, rfl⟩ | ⟨_, _, h1, h2, h3, _, _⟩
    · exact ⟨rfl, by omega, by omega⟩
    · exact ⟨by rw [List.length_take]; omega, h1, h2⟩
  refine ⟨bat_of_ints hl.1 hb fun h0 => ?_, by rw [bytesOf_length]; exact hl.1, hl.2.1, hl.2.2⟩
  obtain ⟨b, off, rfl, _, _, _, _, h5, _⟩ := row_at h h0
  exact ⟨b, off, rfl, h5⟩
theorem bytesOf_str (bs : List UInt8) : strOfNums (bs.map fun x => (x.toNat : Int)) = ⟨bs.toArray⟩ := by
  apply ByteArray.ext
  apply Array.toList_inj.1
  rw [strOfNums_data, List.map_map]
  show _ = bs
  conv => rhs; rw [← List.map_id bs]
  apply List.map_congr_left
  intro x _
  simp
/-- 'string(s)' of a slice of bytes -/
theorem conv_at {P : Program} {w : World} {p : Option Addr} {n : Nat} {bs : List UInt8} (h : BAt w p n bs) (hn : bs.length = n) (src e dst : TypeId) (hs : P.underlying src = some (.slice e)) (he : P.underlying e = some (.int .u8)) (hd : P.underlying dst = some .string) (c : Nat) :
    (convert src dst (.slice p n c)).run P w = .ok (.string ⟨bs.toArray⟩) w := by
  by_cases h0 : 0 < n
  · obtain ⟨b, o, rfl, hc⟩ := h h0
    rw [run_convert_bytes_arg w src e hs he b o n c (bs.map fun x => (x.toNat : Int)) (by simpa using hn) (fun i hi => by
      rw [hc i hi]; simp [List.getD, List.getElem?_eq_getElem (show i < bs.length by omega)]) dst hd, bytesOf_str]
  · obtain rfl : n = 0 := by omega
    obtain rfl : bs = [] := List.eq_nil_of_length_eq_zero hn
    rcases p with _ | a
    · rw [run_convert_bytes_nil w src e hs he 0 c dst hd]; rfl
    · have hl : (loadCells a 0).run P w = .ok (([] : List Int).map (Value.int .u8)).toArray w := by
        have := run_loadCells_list (P := P) w a [] (fun j v hj => by simp at hj)
        simpa using this
      rw [run_convert_bytes_string w src dst e _ 0 c hs he hd, run_bytesToString w a 0 c [] hl]
      rfl
/-- a row of the call's own, read as bytes -/
theorem bat_of_own {w : World} {base : Nat} {e : TypeId} {v : Value} {n : Nat} {xs : List Int} (h : w.ownsRow base e 1 v n (xs.map (Value.int .u8))) (hx : ∀ x ∈ xs, 0 ≤ x ∧ x < 256) :
    ∃ p c, v = .slice p n c ∧ n ≤ c ∧ c ≤ maxLen ∧ BAt w p n (bytesOf xs) ∧ (bytesOf xs).length = n := by
  have hl : xs.length = n := by have := h.1; simpa using this
  have hl' : (bytesOf xs).length = n := by rw [bytesOf_length]; exact hl
  rcases h.2 with ⟨rfl, rfl⟩ | ⟨g, cap, cur, rfl, _, _, h1, h2, _⟩
  · exact ⟨none, 0, rfl, by omega, by omega, fun h => absurd h (by omega), hl'⟩
  · refine ⟨some ⟨g, 0, none⟩, cap, rfl, h1, h2, bat_of_ints hl hx fun h0 => ⟨g, 0, rfl, fun i hi => ?_⟩, hl'⟩
    rw [Nat.zero_add, h.cellAt i (by omega), List.getElem?_map, List.getElem?_eq_getElem (by omega)]
    simp [List.getD, hl, hi]
end Go.Proofs.YtdjedimjhogdoaaGreatDoor.Byt
end
section
namespace Go.Proofs.YtdjedimjhogdoaaGreatDoor.Txt
open Go.ChangeShapes Go.WideShapes Go.ChangeAt Go.RowKit Go.Proofs.YtdjedimjhogdoaaGreatDoor.Base Go.Proofs.YtdjedimjhogdoaaGreatDoor.Byt Go.Lib
set_option linter.unusedVariables false

/-- a text as a string -/
def str (l : List UInt8) : ByteArray := ⟨l.toArray⟩
theorem str_data (l : List UInt8) : (str l).data.toList = l := by simp [str]
theorem str_of (s : ByteArray) : str s.data.toList = s := by
  apply ByteArray.ext
  simp [str]
theorem str_size (l : List UInt8) : (str l).size = l.length := by simp [str, ByteArray.size]
theorem str_app (a b : List UInt8) : str a ++ str b = str (a ++ b) := by
  apply ByteArray.ext
  simp [str, ByteArray.data_append]
theorem str_inj {a b : List UInt8} (h : str a = str b) : a = b := by
  have := congrArg (fun s : ByteArray => s.data.toList) h
  simpa [str_data] using this
theorem size_of (s : ByteArray) : s.size = s.data.toList.length := Lib.size_eq s
theorem str_toList (l : List UInt8) : (str l).toList = l := by rw [Lib.toList_data, str_data]
theorem str_beq (a b : List UInt8) : (str a == str b) = decide (a = b) := by
  by_cases h : a = b
  · subst h
    simpa using (MapKept.bytes_beq (str a) (str a)).2 rfl
  · cases hc : str a == str b with
    | true => exact absurd (str_inj ((MapKept.bytes_beq _ _).1 hc)) h
    | false => simpa using h
theorem str_empty (l : List UInt8) : (str l).toList.isEmpty = decide (l = []) := by
  rw [str_toList]
  cases l <;> simp
theorem str_is (l c : List UInt8) : ((str l).toList == c) = decide (l = c) := by
  rw [str_toList]
  by_cases h : l = c
  · subst h; simp
  · simp [h]
theorem str_take (l : List UInt8) (k : Nat) : (str l).extract 0 k = str (l.take k) := by
  apply ByteArray.ext
  simp [str, ByteArray.data_extract]
theorem str_drop (l : List UInt8) (k n : Nat) (h : n = l.length) : (str l).extract k n = str (l.drop k) := by
  subst h
  apply ByteArray.ext
  simp [str, ByteArray.data_extract, List.take_of_length_le]
/-- whether a byte is there -/
theorem index_has (l : List UInt8) (c : UInt8) : decide (0 ≤ Lib.indexByte l c) = l.contains c := by
  induction l with
  | nil => simp [Lib.indexByte]
  | cons b l ih =>
    have hge := Lib.indexByte_ge l c
    by_cases hb : b = c
    · subst hb
      simp [Lib.indexByte]
    · have hbb : (b == c) = false := by simpa using hb
      by_cases hi : Lib.indexByte l c = -1
      · have e : Lib.indexByte (b :: l) c = -1 := by simp [Lib.indexByte, hbb, hi]
        rw [hi] at ih
        rw [e, List.contains_cons, ← ih]
        simpa using fun h => hb h.symm
      · have hi' : (Lib.indexByte l c == -1) = false := by simpa using hi
        have e : Lib.indexByte (b :: l) c = Lib.indexByte l c + 1 := by simp [Lib.indexByte, hbb, hi']
        rw [List.contains_cons, ← ih, e, decide_eq_true (by omega), decide_eq_true (by omega), Bool.or_true]
theorem has_false {l : List UInt8} {c : UInt8} (h : l.contains c = false) (i : Nat) (hi : i < l.length) : l.getD i 0 ≠ c := fun e => by
  have hm : c ∈ l := by
    rw [← e, List.getD, List.getElem?_eq_getElem hi]
    exact List.getElem_mem hi
  have := List.contains_iff_mem.2 hm
  rw [h] at this
  cases this
/-- a list of one byte, just made -/
theorem byte_bat (w : World) (t : TypeId) (x : UInt8) (m : Int) (h : (x.toNat : Int) = m) : BAt (w.alloc (.cells #[.int .u8 m] t)) (some ⟨w.heap.size, 0, none⟩) 1 [x] := fun _ => ⟨_, _, rfl, fun i hi => by
  obtain rfl : i = 0 := by omega
  rw [World.cell?_alloc_at _ _ _ _ rfl]
  show some (Value.int .u8 m) = some (Value.int .u8 (x.toNat : Int))
  rw [h]⟩
end Go.Proofs.YtdjedimjhogdoaaGreatDoor.Txt
end
section
namespace Go.Proofs.YtdjedimjhogdoaaGreatDoor.Hp
structure HeadV where
  name : List UInt8
  link : List UInt8
  kind : UInt8
  mode : Int
  uid : Int
  gid : Int
  time : Int
  size : Int
  gnu : Bool
def zeroH : HeadV := ⟨[], [], 0, 0, 0, 0, 0, 0, false⟩
def numH (h : HeadV) : Nat → Int
  | 1 => h.mode | 2 => h.uid | 3 => h.gid | 4 => h.size | 5 => h.time | _ => 0
deriving instance DecidableEq for HeadV
end Go.Proofs.YtdjedimjhogdoaaGreatDoor.Hp
namespace Go.Proofs.YtdjedimjhogdoaaGreatDoor.Head
open Go.ChangeShapes Go.WideShapes Go.ChangeAt Go.RowKit Go.Proofs.YtdjedimjhogdoaaGreatDoor.Base Go.Proofs.YtdjedimjhogdoaaGreatDoor.Byt Go.Proofs.YtdjedimjhogdoaaGreatDoor.Txt Go.Proofs.YtdjedimjhogdoaaGreatDoor.Hp Go.Lib
set_option linter.unusedVariables false
set_option maxRecDepth 100000

/-- a block whose cells are known -/
theorem headCell {w : World} {g : Nat} {cs : Array Value} {e : TypeId} (h : w.heap[g]? = some (.cells cs e (0, 0))) (i : Nat) : w.cell? ⟨g, i, none⟩ = cs[i]? := by
  simp [World.cell?, h]
/-- a head as it lies in memory -/
def headC (h : HeadV) : Array Value := #[.string (str h.name), .string (str h.link), .int .u8 (h.kind.toNat : Int), .int .i64 h.mode, .int .i64 h.uid, .int .i64 h.gid, .int .i64 h.time, .int .i64 h.size, .bool h.gnu]
theorem zeroC : headC zeroH = #[.string ⟨#[]⟩, .string ⟨#[]⟩, .int .u8 0, .int .i64 0, .int .i64 0, .int .i64 0, .int .i64 0, .int .i64 0, .bool false] := rfl
/-- a head and an error, as an answer -/
def headA (x : HeadV × Int) : Value := .tuple #[.agg (headC x.1), .int .i64 x.2]
theorem load_head (w : World) (g : Nat) (a b : ByteArray) (k m u i t z : Int) (n : Bool) (h : w.heap[g]? = some (.cells #[.string a, .string b, .int .u8 k, .int .i64 m, .int .i64 u, .int .i64 i, .int .i64 t, .int .i64 z, .bool n] 57 (0, 0))) :
    (loadVar 57 ⟨g, 0, none⟩).run Tryz.prog w = .ok (.agg #[.string a, .string b, .int .u8 k, .int .i64 m, .int .i64 u, .int .i64 i, .int .i64 t, .int .i64 z, .bool n]) w := by
  have c0 := headCell h 0
  have c1 := headCell h 1
  have c2 := headCell h 2
  have c3 := headCell h 3
  have c4 := headCell h 4
  have c5 := headCell h 5
  have c6 := headCell h 6
  have c7 := headCell h 7
  have c8 := headCell h 8
  clear h
  go_simp
theorem eqH_deep (a b : HeadV) (d : Nat) (w : World) : (Op.equalIn (d + 1 + 1 + 1) 57 (.agg (headC a)) (.agg (headC b))).run Tryz.prog w = .ok (decide (a = b)) w := by
  have e : decide (a = b) = (decide (a.name = b.name) && decide (a.link = b.link) && decide (a.kind = b.kind) && decide (a.mode = b.mode) && decide (a.uid = b.uid) && decide (a.gid = b.gid) && decide (a.time = b.time) && decide (a.size = b.size) && decide (a.gnu = b.gnu)) := by
    rw [Bool.eq_iff_iff]
    simp only [decide_eq_true_eq, Bool.and_eq_true]
    constructor
    · rintro rfl; simp
    · rintro ⟨⟨⟨⟨⟨⟨⟨⟨h1, h2⟩, h3⟩, h4⟩, h5⟩, h6⟩, h7⟩, h8⟩, h9⟩
      cases a; cases b; simp_all
  have s1 : ∀ x y : List UInt8, ((str x).toList == (str y).toList) = decide (x = y) := fun x y => by
    rw [str_toList, str_toList]
    by_cases h : x = y <;> simp [h]
  have s2 : (((a.kind.toNat : Int)) == (b.kind.toNat : Int)) = decide (a.kind = b.kind) := by
    by_cases h : a.kind = b.kind
    · simp [h]
    · have : ¬ a.kind.toNat = b.kind.toNat := fun hh => h (UInt8.toNat.inj hh)
      simp only [h, decide_false, beq_eq_false_iff_ne, ne_eq]
      omega
  have hS : Tryz.prog.underlying 57 = some (.struct (Tryz.prog.fieldsOf 57)) := by kernel_rfl
  have hM : Tryz.prog.underlying 35 = some (.struct (Tryz.prog.fieldsOf 35)) := by kernel_rfl
  have pS : Tryz.prog.stoodInHeld 57 = false := by kernel_rfl
  have pM : Tryz.prog.stoodInHeld 35 = false := by kernel_rfl
  have qM := fun (xs ys : Array Value) => run_equalIn_agg (P := Tryz.prog) w (d + 1) 35 xs ys hM pM
  rw [run_equalIn_agg w (d + 1 + 1) _ _ _ hS pS]
  clear hS hM pS pM
  simp only [Program.fieldsOf, Tryz.underlying57, Tryz.underlying35] at qM ⊢
  rw [e, ← s2, ← s1, ← s1]
  clear e s1 s2
  unfold headC
  go_simp
  by_cases h1 : (str a.name).toList = (str b.name).toList
  · by_cases h2 : (str a.link).toList = (str b.link).toList
    · by_cases h3 : (a.kind.toNat : Int) = (b.kind.toNat : Int)
      · by_cases h4 : a.mode = b.mode <;> by_cases h5 : a.uid = b.uid <;> by_cases h6 : a.gid = b.gid <;> by_cases h7 : a.time = b.time <;> by_cases h8 : a.size = b.size <;> by_cases h9 : a.gnu = b.gnu <;> simp [h1, h2, h3, h4, h5, h6, h7, h8, h9]
      · simp only [h3, if_false, beq_eq_false_iff_ne.2 h3, Bool.and_false, Bool.false_and, h1, h2, if_true]
    · simp only [h2, if_false, beq_eq_false_iff_ne.2 h2, Bool.and_false, Bool.false_and, h1, if_true]
  · simp only [h1, if_false, beq_eq_false_iff_ne.2 h1, Bool.false_and]
/-- when two heads are the same -/
theorem eqH (a b : HeadV) (w : World) : (binOp .eql 57 (.agg (headC a)) (.agg (headC b))).run Tryz.prog w = .ok (.bool (decide (a = b))) w := by
  rw [run_eql_struct, show (10000 : Nat) = 9997 + 1 + 1 + 1 from rfl, eqH_deep a b 9997 w]
  rfl
end Go.Proofs.YtdjedimjhogdoaaGreatDoor.Head
end
section
namespace Go.Proofs.YtdjedimjhogdoaaGreatDoor.Hp
open Go.Lib Go.Proofs.YtdjedimjhogdoaaGreatDoor.Fp
set_option linter.unusedVariables false

/-- where field i begins -/
def atF : Nat → Nat
  | 0 => 0 | 1 => 100 | 2 => 108 | 3 => 116 | 4 => 124 | 5 => 136 | 6 => 148 | 7 => 156 | 8 => 157 | 9 => 257 | 10 => 345 | _ => 512
/-- how many bytes it has -/
def wideF : Nat → Nat
  | 0 => 100 | 1 => 8 | 2 => 8 | 3 => 8 | 4 => 12 | 5 => 12 | 6 => 8 | 7 => 1 | 8 => 100 | 9 => 8 | 10 => 155 | _ => 0
/-- which field byte x is of; 11: of none -/
def fld (x : Nat) : Nat :=
  if x < 100 then 0 else if x < 108 then 1 else if x < 116 then 2 else if x < 124 then 3 else if x < 136 then 4 else if x < 148 then 5 else if x < 156 then 6 else if x < 157 then 7 else if x < 257 then 8 else if x < 265 then 9 else if x < 345 then 11 else if x < 500 then 10 else 11
theorem cases11 {i : Nat} (hi : i < 11) : i = 0 ∨ i = 1 ∨ i = 2 ∨ i = 3 ∨ i = 4 ∨ i = 5 ∨ i = 6 ∨ i = 7 ∨ i = 8 ∨ i = 9 ∨ i = 10 := by omega
theorem fld_at (x : Nat) : ∃ v lo hi, fld x = v ∧ lo ≤ x ∧ x < hi ∧ ((v = 11 ∧ lo = 500) ∨ (v = 11 ∧ lo = 265 ∧ hi = 345) ∨ (v < 11 ∧ atF v = lo ∧ atF v + wideF v = hi)) := by
  by_cases h0 : x < 100
  · refine ⟨0, 0, 100, ?_, by omega, h0, ?_⟩
    · unfold fld
      rw [if_pos h0]
    · exact Or.inr (Or.inr ⟨by decide, rfl, rfl⟩)
  by_cases h1 : x < 108
  · refine ⟨1, 100, 108, ?_, by omega, h1, ?_⟩
    · unfold fld
      rw [if_neg h0, if_pos h1]
    · exact Or.inr (Or.inr ⟨by decide, rfl, rfl⟩)
  by_cases h2 : x < 116
  · refine ⟨2, 108, 116, ?_, by omega, h2, ?_⟩
    · unfold fld
      rw [if_neg h0, if_neg h1, if_pos h2]
    · exact Or.inr (Or.inr ⟨by decide, rfl, rfl⟩)
  by_cases h3 : x < 124
  · refine ⟨3, 116, 124, ?_, by omega, h3, ?_⟩
    · unfold fld
      rw [if_neg h0, if_neg h1, if_neg h2, if_pos h3]
    · exact Or.inr (Or.inr ⟨by decide, rfl, rfl⟩)
  by_cases h4 : x < 136
  · refine ⟨4, 124, 136, ?_, by omega, h4, ?_⟩
    · unfold fld
      rw [if_neg h0, if_neg h1, if_neg h2, if_neg h3, if_pos h4]
    · exact Or.inr (Or.inr ⟨by decide, rfl, rfl⟩)
  by_cases h5 : x < 148
  · refine ⟨5, 136, 148, ?_, by omega, h5, ?_⟩
    · unfold fld
      rw [if_neg h0, if_neg h1, if_neg h2, if_neg h3, if_neg h4, if_pos h5]
    · exact Or.inr (Or.inr ⟨by decide, rfl, rfl⟩)
  by_cases h6 : x < 156
  · refine ⟨6, 148, 156, ?_, by omega, h6, ?_⟩
    · unfold fld
      rw [if_neg h0, if_neg h1, if_neg h2, if_neg h3, if_neg h4, if_neg h5, if_pos h6]
    · exact Or.inr (Or.inr ⟨by decide, rfl, rfl⟩)
  by_cases h7 : x < 157
  · refine ⟨7, 156, 157, ?_, by omega, h7, ?_⟩
    · unfold fld
      rw [if_neg h0, if_neg h1, if_neg h2, if_neg h3, if_neg h4, if_neg h5, if_neg h6, if_pos h7]
    · exact Or.inr (Or.inr ⟨by decide, rfl, rfl⟩)
  by_cases h8 : x < 257
  · refine ⟨8, 157, 257, ?_, by omega, h8, ?_⟩
    · unfold fld
      rw [if_neg h0, if_neg h1, if_neg h2, if_neg h3, if_neg h4, if_neg h5, if_neg h6, if_neg h7, if_pos h8]
    · exact Or.inr (Or.inr ⟨by decide, rfl, rfl⟩)
  by_cases h9 : x < 265
  · refine ⟨9, 257, 265, ?_, by omega, h9, ?_⟩
    · unfold fld
      rw [if_neg h0, if_neg h1, if_neg h2, if_neg h3, if_neg h4, if_neg h5, if_neg h6, if_neg h7, if_neg h8, if_pos h9]
    · exact Or.inr (Or.inr ⟨by decide, rfl, rfl⟩)
  by_cases h10 : x < 345
  · refine ⟨11, 265, 345, ?_, by omega, h10, ?_⟩
    · unfold fld
      rw [if_neg h0, if_neg h1, if_neg h2, if_neg h3, if_neg h4, if_neg h5, if_neg h6, if_neg h7, if_neg h8, if_neg h9, if_pos h10]
    · exact Or.inr (Or.inl ⟨rfl, rfl, rfl⟩)
  by_cases h11 : x < 500
  · refine ⟨10, 345, 500, ?_, by omega, h11, ?_⟩
    · unfold fld
      rw [if_neg h0, if_neg h1, if_neg h2, if_neg h3, if_neg h4, if_neg h5, if_neg h6, if_neg h7, if_neg h8, if_neg h9, if_neg h10, if_pos h11]
    · exact Or.inr (Or.inr ⟨by decide, rfl, rfl⟩)
  refine ⟨11, 500, x + 1, ?_, by omega, by omega, Or.inl ⟨rfl, rfl⟩⟩
  unfold fld
  rw [if_neg h0, if_neg h1, if_neg h2, if_neg h3, if_neg h4, if_neg h5, if_neg h6, if_neg h7, if_neg h8, if_neg h9, if_neg h10, if_neg h11]
theorem at_apart {i j : Nat} (hi : i < 11) (hj : j < 11) (hne : i ≠ j) : atF i + wideF i ≤ atF j ∨ atF j + wideF j ≤ atF i := by
  have h : ∀ i, i < 11 → ∀ j, j < 11 → i ≠ j → atF i + wideF i ≤ atF j ∨ atF j + wideF j ≤ atF i := by decide
  exact h i hi j hj hne
theorem at_free {i : Nat} (hi : i < 11) : atF i + wideF i ≤ 265 ∨ 345 ≤ atF i ∧ atF i + wideF i ≤ 500 := by
  have h : ∀ i, i < 11 → (atF i + wideF i ≤ 265 ∨ 345 ≤ atF i ∧ atF i + wideF i ≤ 500) := by decide
  exact h i hi
theorem fld_iff {i x : Nat} (hi : i < 11) : fld x = i ↔ atF i ≤ x ∧ x < atF i + wideF i := by
  obtain ⟨v, lo, hi', e, h1, h2, h3⟩ := fld_at x
  have hf := at_free hi
  rw [e]
  rcases h3 with ⟨rfl, rfl⟩ | ⟨rfl, rfl, rfl⟩ | ⟨h3, rfl, rfl⟩
  · omega
  · omega
  · constructor
    · rintro rfl; exact ⟨h1, h2⟩
    · intro h
      rcases Nat.decEq v i with hne | rfl
      · have := at_apart h3 hi hne
        omega
      · rfl
theorem field_in {i : Nat} (hi : i < 11) : atF i + wideF i ≤ 512 := by
  rcases cases11 hi with rfl | rfl | rfl | rfl | rfl | rfl | rfl | rfl | rfl | rfl | rfl <;> simp [atF, wideF]
theorem wide_pos {i : Nat} (hi : i < 11) : 1 ≤ wideF i ∧ wideF i ≤ 155 := by
  rcases cases11 hi with rfl | rfl | rfl | rfl | rfl | rfl | rfl | rfl | rfl | rfl | rfl <;> simp [wideF]
theorem wide_none {i : Nat} (hi : ¬ i < 11) : wideF i = 0 := by
  match i, hi with
  | 0, hi | 1, hi | 2, hi | 3, hi | 4, hi | 5, hi | 6, hi | 7, hi | 8, hi | 9, hi | 10, hi => exact absurd (by decide) hi
  | i + 11, _ => rfl

theorem getD_ext {l m : List UInt8} (h : l.length = m.length) (hx : ∀ x, x < l.length → l.getD x 0 = m.getD x 0) : l = m := by
  apply List.ext_getElem h
  intro x h1 h2
  have := hx x h1
  rw [List.getD, List.getD, List.getElem?_eq_getElem h1, List.getElem?_eq_getElem h2] at this
  simpa using this
theorem getD_out {l : List UInt8} {x : Nat} (h : l.length ≤ x) : l.getD x 0 = 0 := by
  rw [List.getD, List.getElem?_eq_none h]; rfl
/-- the fields of a block -/
def Fits (own : Nat → List UInt8) : Prop := ∀ i, (own i).length = wideF i
/-- the block of these fields -/
def blockA (own : Nat → List UInt8) : List UInt8 := (List.range 512).map fun x => (own (fld x)).getD (x - atF (fld x)) 0
theorem blockA_length (own : Nat → List UInt8) : (blockA own).length = 512 := by simp [blockA]
theorem blockA_get (own : Nat → List UInt8) {x : Nat} (h : x < 512) : (blockA own).getD x 0 = (own (fld x)).getD (x - atF (fld x)) 0 := by
  simp [blockA, List.getD, h]
/-- field i of a block -/
def fieldB (bs : List UInt8) (i : Nat) : List UInt8 := (bs.drop (atF i)).take (wideF i)
theorem fieldB_length {bs : List UInt8} (hl : bs.length = 512) {i : Nat} (hi : i < 11) : (fieldB bs i).length = wideF i := by
  have := field_in hi
  simp only [fieldB, List.length_take, List.length_drop]
  omega
theorem fieldB_get (bs : List UInt8) (i j : Nat) (hj : j < wideF i) : (fieldB bs i).getD j 0 = bs.getD (atF i + j) 0 := by
  simp [fieldB, List.getD, hj]
theorem field_blockA {own : Nat → List UInt8} (hf : Fits own) {i : Nat} (hi : i < 11) : fieldB (blockA own) i = own i := by
  have hl := fieldB_length (blockA_length own) hi
  refine getD_ext (by rw [hl, hf i]) fun x hx => ?_
  rw [hl] at hx
  have h1 := field_in hi
  rw [fieldB_get _ _ _ hx, blockA_get own (by omega), (fld_iff hi).2 ⟨by omega, by omega⟩]
  congr 1
  omega
def upd (own : Nat → List UInt8) (i : Nat) (l : List UInt8) : Nat → List UInt8 := fun k => if k = i then l else own k
theorem upd_same (own : Nat → List UInt8) (i : Nat) (l : List UInt8) : upd own i l i = l := if_pos rfl
theorem upd_other (own : Nat → List UInt8) {i k : Nat} (l : List UInt8) (h : k ≠ i) : upd own i l k = own k := if_neg h
theorem Fits.upd {own : Nat → List UInt8} (h : Fits own) {i : Nat} {l : List UInt8} (hl : l.length = wideF i) : Fits (upd own i l) := fun k => by
  by_cases hk : k = i
  · subst hk; rw [upd_same]; exact hl
  · rw [upd_other _ _ hk]; exact h k
/-- a text laid over a field's beginning -/
def putInto (old cs : List UInt8) : List UInt8 := cs ++ old.drop cs.length
theorem putInto_length {old cs : List UInt8} (h : cs.length ≤ old.length) : (putInto old cs).length = old.length := by
  simp only [putInto, List.length_append, List.length_drop]; omega
theorem splice_get (L cs : List UInt8) (off x : Nat) (h : off + cs.length ≤ L.length) : (splice L off cs).getD x 0 = if off ≤ x ∧ x < off + cs.length then cs.getD (x - off) 0 else L.getD x 0 := by
  unfold splice
  have hm : min off L.length = off := by omega
  simp only [List.getD, List.getElem?_append, List.length_take, hm]
  by_cases h1 : x < off
  · rw [if_pos h1, if_neg (by omega), List.getElem?_take, if_pos h1]
  · rw [if_neg h1]
    by_cases h2 : x - off < cs.length
    · rw [if_pos h2, if_pos (by omega)]
    · rw [if_neg h2, if_neg (by omega), List.getElem?_drop]
      congr 2
      omega
theorem splice_zero (L cs : List UInt8) : splice L 0 cs = putInto L cs := by simp [splice, putInto]
theorem putInto_get (old cs : List UInt8) (x : Nat) (h : cs.length ≤ old.length) : (putInto old cs).getD x 0 = if x < cs.length then cs.getD x 0 else old.getD x 0 := by
  rw [← splice_zero, splice_get _ _ _ _ (by omega)]
  simp
theorem splice_blockA {own : Nat → List UInt8} (hf : Fits own) {i : Nat} (hi : i < 11) {cs : List UInt8} (hl : cs.length ≤ wideF i) : splice (blockA own) (atF i) cs = blockA (upd own i (putInto (own i) cs)) := by
  have h1 := field_in hi
  have hL : (splice (blockA own) (atF i) cs).length = 512 := by rw [length_splice _ _ _ (by rw [blockA_length]; omega), blockA_length]
  refine getD_ext (by rw [hL, blockA_length]) fun x hx => ?_
  rw [hL] at hx
  rw [splice_get _ _ _ _ (by rw [blockA_length]; omega), blockA_get _ hx, blockA_get _ hx]
  by_cases hx1 : atF i ≤ x ∧ x < atF i + wideF i
  · rw [(fld_iff hi).2 hx1, upd_same, putInto_get _ _ _ (by rw [hf i]; exact hl)]
    by_cases h2 : x - atF i < cs.length
    · rw [if_pos (by omega), if_pos h2]
    · rw [if_neg (by omega), if_neg h2]
  · rw [if_neg (by omega), upd_other _ _ (fun e => hx1 ((fld_iff hi).1 e))]
/-- fields of bytes 0 -/
def zeroO : Nat → List UInt8 := fun i => List.replicate (wideF i) 0
theorem zeroO_fits : Fits zeroO := fun i => List.length_replicate
theorem blockA_zero : blockA zeroO = List.replicate 512 0 := by
  refine getD_ext (by rw [blockA_length, List.length_replicate]) fun x hx => ?_
  rw [blockA_length] at hx
  rw [blockA_get _ hx]
  simp only [zeroO, List.getD, List.getElem?_replicate, if_pos hx]
  split <;> rfl
/-- the fields of a block of 512 bytes -/
def readO (bs : List UInt8) : Nat → List UInt8 := fun i => if i < 11 then fieldB bs i else []
theorem readO_fits {bs : List UInt8} (hl : bs.length = 512) : Fits (readO bs) := fun i => by
  unfold readO
  split
  · exact fieldB_length hl ‹_›
  · rw [wide_none ‹_›]; rfl
theorem fits_ext {a b : Nat → List UInt8} (ha : Fits a) (hb : Fits b) (h : ∀ i, i < 11 → a i = b i) : a = b := by
  funext i
  by_cases hi : i < 11
  · exact h i hi
  · have h1 := ha i
    have h2 := hb i
    rw [wide_none hi] at h1 h2
    rw [List.eq_nil_of_length_eq_zero h1, List.eq_nil_of_length_eq_zero h2]

/-! ### sums -/
def plainTo (bs : List UInt8) : Nat → Nat
  | 0 => 0
  | k + 1 => plainTo bs k + (bs.getD k 0).toNat
def sumTo (bs : List UInt8) : Nat → Nat
  | 0 => 0
  | k + 1 => sumTo bs k + (if 148 ≤ k ∧ k < 156 then 32 else (bs.getD k 0).toNat)
theorem plainTo_le (bs : List UInt8) : ∀ k, plainTo bs k ≤ 255 * k
  | 0 => Nat.le_refl _
  | k + 1 => by have := plainTo_le bs k; have := (bs.getD k 0).toNat_lt; rw [plainTo]; omega
theorem sumTo_le (bs : List UInt8) : ∀ k, sumTo bs k ≤ 255 * k
  | 0 => Nat.le_refl _
  | k + 1 => by have := sumTo_le bs k; have := (bs.getD k 0).toNat_lt; rw [sumTo]; split <;> omega
theorem plainTo_zero {bs : List UInt8} : ∀ {k : Nat}, plainTo bs k = 0 ↔ ∀ x, x < k → bs.getD x 0 = 0
  | 0 => ⟨fun _ x hx => by omega, fun _ => rfl⟩
  | k + 1 => by
    rw [plainTo, Nat.add_eq_zero_iff, plainTo_zero (k := k)]
    constructor
    · rintro ⟨h1, h2⟩ x hx
      by_cases hk : x = k
      · subst hk; exact UInt8.toNat_inj.1 h2
      · exact h1 x (by omega)
    · intro h
      exact ⟨fun x hx => h x (by omega), by rw [h k (by omega)]; rfl⟩
theorem sumTo_congr {a b : List UInt8} : ∀ {k : Nat}, (∀ x, x < k → ¬ (148 ≤ x ∧ x < 156) → a.getD x 0 = b.getD x 0) → sumTo a k = sumTo b k
  | 0, _ => rfl
  | k + 1, h => by
    rw [sumTo, sumTo, sumTo_congr (k := k) fun x hx hn => h x (by omega) hn]
    split
    · rfl
    · rw [h k (by omega) ‹_›]
theorem getD_set (bs : List UInt8) (k x : Nat) (v : UInt8) (hk : k < bs.length) : (bs.set k v).getD x 0 = if x = k then v else bs.getD x 0 := by
  simp only [List.getD, List.getElem?_set]
  by_cases h : k = x
  · subst h; simp [hk]
  · simp [h, Ne.symm h]
theorem sumTo_set {bs : List UInt8} {k : Nat} (v : UInt8) (hk : k < bs.length) (hn : ¬ (148 ≤ k ∧ k < 156)) : ∀ {n : Nat}, k < n → sumTo (bs.set k v) n + (bs.getD k 0).toNat = sumTo bs n + v.toNat
  | 0, h => by omega
  | n + 1, h => by
    rw [sumTo, sumTo, getD_set _ _ _ _ hk]
    by_cases hkn : k = n
    · subst hkn
      rw [if_neg hn, if_neg hn, if_pos rfl, sumTo_congr (a := bs.set k v) (b := bs) fun x hx _ => by rw [getD_set _ _ _ _ hk, if_neg (by omega)]]
      omega
    · have := sumTo_set v hk hn (n := n) (by omega)
      rw [if_neg (show ¬ n = k by omega)]
      omega
theorem sum_parts {bs : List UInt8} : sumTo bs 512 + plainTo (fieldB bs 6) 8 = plainTo bs 512 + 256 := by
  have a : ∀ k, k ≤ 148 → sumTo bs k = plainTo bs k := by
    intro k
    induction k with
    | zero => intro _; rfl
    | succ k ih => intro hk; rw [sumTo, plainTo, ih (by omega), if_neg (by omega)]
  have b : ∀ j, j ≤ 8 → sumTo bs (148 + j) + plainTo (fieldB bs 6) j = plainTo bs (148 + j) + 32 * j := by
    intro j
    induction j with
    | zero => intro _; rw [Nat.add_zero, a 148 (by omega)]; rfl
    | succ j ih =>
      intro hj
      have := ih (by omega)
      rw [show 148 + (j + 1) = (148 + j) + 1 by omega, sumTo, plainTo, plainTo, fieldB_get bs 6 j (by simp [wideF]; omega), if_pos (by omega), show atF 6 + j = 148 + j from rfl]
      omega
  have c : ∀ j, sumTo bs (156 + j) + plainTo (fieldB bs 6) 8 = plainTo bs (156 + j) + 256 := by
    intro j
    induction j with
    | zero => exact b 8 (by omega)
    | succ j ih => rw [show 156 + (j + 1) = (156 + j) + 1 by omega, sumTo, plainTo.eq_2 bs (156 + j), if_neg (by omega)]; omega
  exact c 356

attribute [irreducible] sumTo plainTo blockA
/-! ### what a block says -/
def untilB (l : List UInt8) : List UInt8 := l.takeWhile (· != 0)
theorem untilB_app {s : List UInt8} (h : ∀ x ∈ s, x ≠ 0) (n : Nat) : untilB (s ++ List.replicate n 0) = s := by
  unfold untilB
  induction s with
  | nil =>
    cases n with
    | zero => rfl
    | succ n => rw [List.nil_append, List.replicate_succ, List.takeWhile_cons, if_neg (by decide)]
  | cons c t ih =>
    rw [List.cons_append, List.takeWhile_cons, if_pos (by simpa using h c (List.mem_cons_self ..)), ih fun x hx => h x (List.mem_cons_of_mem _ hx)]
def ustarB : List UInt8 := [117, 115, 116, 97, 114, 0, 48, 48]
def gnuB : List UInt8 := [117, 115, 116, 97, 114, 32, 32, 0]
def nameF (p s : List UInt8) (gnu : Bool) : List UInt8 := if gnu = true ∨ p = [] then s else p ++ 47 :: s
def numsOkB (bs : List UInt8) : Bool := (List.range 5).all fun i => okI (parseF (fieldB bs (i + 1)))
def valB (bs : List UInt8) (i : Nat) : Int := valI (parseF (fieldB bs i))
def kindB (bs : List UInt8) : UInt8 := if (fieldB bs 7).getD 0 0 = 0 then 48 else (fieldB bs 7).getD 0 0
def gnuOf (bs : List UInt8) : Bool := fieldB bs 9 == gnuB
def theHead (bs : List UInt8) : HeadV :=
  ⟨nameF (untilB (fieldB bs 10)) (untilB (fieldB bs 0)) (gnuOf bs), untilB (fieldB bs 8), kindB bs, valB bs 1, valB bs 2, valB bs 3, valB bs 5, valB bs 4, gnuOf bs⟩
def headR (bs : List UInt8) : HeadV × Int :=
  if bs.length ≠ 512 then (zeroH, 1)
  else if parseF (fieldB bs 6) ≠ some (sumTo bs 512 : Int) then (zeroH, 3)
  else if fieldB bs 9 ≠ ustarB ∧ fieldB bs 9 ≠ gnuB then (zeroH, 9)
  else if numsOkB bs = true then (theHead bs, 0) else (zeroH, 4)
theorem headR_arg {bs : List UInt8} (h : bs.length ≠ 512) : headR bs = (zeroH, 1) := if_pos h
theorem headR_sum {bs : List UInt8} (h : bs.length = 512) (h1 : parseF (fieldB bs 6) ≠ some (sumTo bs 512 : Int)) : headR bs = (zeroH, 3) := by
  rw [headR, if_neg (by simp [h]), if_pos h1]
theorem headR_text {bs : List UInt8} (h : bs.length = 512) (h1 : parseF (fieldB bs 6) = some (sumTo bs 512 : Int)) (h2 : fieldB bs 9 ≠ ustarB ∧ fieldB bs 9 ≠ gnuB) : headR bs = (zeroH, 9) := by
  rw [headR, if_neg (by simp [h]), if_neg (by simp [h1]), if_pos h2]
theorem headR_num {bs : List UInt8} (h : bs.length = 512) (h1 : parseF (fieldB bs 6) = some (sumTo bs 512 : Int)) (h2 : fieldB bs 9 = ustarB ∨ fieldB bs 9 = gnuB) (h3 : numsOkB bs = false) : headR bs = (zeroH, 4) := by
  rw [headR, if_neg (by simp [h]), if_neg (by simp [h1]), if_neg (by rcases h2 with h2 | h2 <;> simp [h2]), if_neg (by simp [h3])]
theorem headR_ok {bs : List UInt8} (h : bs.length = 512) (h1 : parseF (fieldB bs 6) = some (sumTo bs 512 : Int)) (h2 : fieldB bs 9 = ustarB ∨ fieldB bs 9 = gnuB) (h3 : numsOkB bs = true) : headR bs = (theHead bs, 0) := by
  rw [headR, if_neg (by simp [h]), if_neg (by simp [h1]), if_neg (by rcases h2 with h2 | h2 <;> simp [h2]), if_pos h3]
theorem numsOkB_iff {bs : List UInt8} : numsOkB bs = true ↔ ∀ i, 1 ≤ i → i ≤ 5 → okI (parseF (fieldB bs i)) = true := by
  unfold numsOkB
  rw [List.all_eq_true]
  constructor
  · intro h i h1 h2
    have := h (i - 1) (List.mem_range.2 (by omega))
    rwa [show i - 1 + 1 = i by omega] at this
  · intro h i hi
    have := List.mem_range.1 hi
    exact h (i + 1) (by omega) (by omega)

/-! ### where a name is cut -/
def mayCut (name : List UInt8) (i : Nat) : Prop := name.getD i 0 = 47 ∧ 1 ≤ i ∧ i ≤ 155 ∧ i + 2 ≤ name.length ∧ name.length ≤ i + 101
instance (name : List UInt8) (i : Nat) : Decidable (mayCut name i) := by unfold mayCut; exact inferInstance
def cutI (name : List UInt8) : Option Nat := (List.range name.length).find? fun i => decide (mayCut name i)
def cutR (name : List UInt8) : Option (List UInt8 × List UInt8) :=
  if name.length ≤ 100 then some ([], name) else (cutI name).map fun i => (name.take i, name.drop (i + 1))
theorem cutI_some {name : List UInt8} {k : Nat} (hk : mayCut name k) (hlt : ∀ j, j < k → ¬ mayCut name j) : cutI name = some k := by
  have hn : k < name.length := by unfold mayCut at hk; omega
  unfold cutI
  rw [List.find?_eq_some_iff_getElem]
  refine ⟨by simpa using hk, k, by simpa using hn, by simp, fun j hj => by simpa using hlt j hj⟩
theorem cutI_none {name : List UInt8} (h : ∀ j, j < name.length → ¬ mayCut name j) : cutI name = none := by
  unfold cutI
  rw [List.find?_eq_none]
  intro j hj
  simpa using h j (List.mem_range.1 hj)
theorem cutR_short {name : List UInt8} (h : name.length ≤ 100) : cutR name = some ([], name) := if_pos h
theorem cutR_at {name : List UInt8} {k : Nat} (h : ¬ name.length ≤ 100) (hk : mayCut name k) (hlt : ∀ j, j < k → ¬ mayCut name j) : cutR name = some (name.take k, name.drop (k + 1)) := by
  rw [cutR, if_neg h, cutI_some hk hlt]; rfl
theorem cutR_none {name : List UInt8} (h : ¬ name.length ≤ 100) (hn : ∀ j, j < name.length → ¬ mayCut name j) : cutR name = none := by
  rw [cutR, if_neg h, cutI_none hn]; rfl
theorem cutR_spec {name p s : List UInt8} (h : cutR name = some (p, s)) : s.length ≤ 100 ∧ p.length ≤ 155 ∧ ((p = [] ∧ s = name) ∨ (p ≠ [] ∧ name = p ++ 47 :: s)) := by
  unfold cutR at h
  split at h
  · cases h
    exact ⟨‹_›, by simp, Or.inl ⟨rfl, rfl⟩⟩
  · cases hc : cutI name with
    | none => rw [hc] at h; cases h
    | some k =>
      rw [hc] at h
      simp only [Option.map_some, Option.some.injEq, Prod.mk.injEq] at h
      obtain ⟨rfl, rfl⟩ := h
      have hm : mayCut name k := by
        unfold cutI at hc
        simpa using List.find?_some hc
      obtain ⟨h1, h2, h3, h4, h5⟩ := hm
      refine ⟨by rw [List.length_drop]; omega, by rw [List.length_take]; omega, Or.inr ⟨fun e => ?_, ?_⟩⟩
      · have := congrArg List.length e
        rw [List.length_take, List.length_nil] at this
        omega
      · have hk : k < name.length := by omega
        have e1 : name = name.take k ++ name.drop k := (List.take_append_drop k name).symm
        rw [List.drop_eq_getElem_cons hk] at e1
        have e2 : name[k] = 47 := by simpa [List.getD, hk] using h1
        rw [e2] at e1
        exact e1

/-! ### what is written -/
def padTo (n : Nat) (s : List UInt8) : List UInt8 := s ++ List.replicate (n - s.length) 0
theorem padTo_length {n : Nat} {s : List UInt8} (h : s.length ≤ n) : (padTo n s).length = n := by
  simp only [padTo, List.length_append, List.length_replicate]; omega
theorem putInto_zero (n : Nat) (s : List UInt8) : putInto (List.replicate n 0) s = padTo n s := by
  simp [putInto, padTo, List.drop_replicate]
def numB (h : HeadV) (i : Nat) : List UInt8 := bytesOf ((putF (numH h i) (wideF i)).getD [])
def numsOk (h : HeadV) : Bool := (List.range 5).all fun i => (putF (numH h (i + 1)) (wideF (i + 1))).isSome
theorem numsOk_iff {h : HeadV} : numsOk h = true ↔ ∀ i, 1 ≤ i → i ≤ 5 → (putF (numH h i) (wideF i)).isSome = true := by
  unfold numsOk
  rw [List.all_eq_true]
  constructor
  · intro g i h1 h2
    have := g (i - 1) (List.mem_range.2 (by omega))
    rwa [show i - 1 + 1 = i by omega] at this
  · intro g i hi
    have := List.mem_range.1 hi
    exact g (i + 1) (by omega) (by omega)
theorem numB_some {h : HeadV} {i : Nat} {l : List Int} (hp : putF (numH h i) (wideF i) = some l) : numB h i = bytesOf l := by rw [numB, hp]; rfl
theorem numB_length {h : HeadV} {i : Nat} (hp : (putF (numH h i) (wideF i)).isSome = true) : (numB h i).length = wideF i := by
  obtain ⟨l, hl⟩ := Option.isSome_iff_exists.1 hp
  rw [numB_some hl, bytesOf_length]
  have := (putF_length hl).1
  omega
def badH (h : HeadV) : Bool := h.gnu || h.kind == 0 || decide (100 < h.link.length) || h.name.contains 0 || h.link.contains 0
def own1 (h : HeadV) (p s : List UInt8) (i : Nat) : List UInt8 :=
  if i = 0 then padTo 100 s else if i = 6 then List.replicate 8 0 else if i = 7 then [h.kind] else if i = 8 then padTo 100 h.link else if i = 9 then ustarB else if i = 10 then padTo 155 p else if i ≤ 5 then numB h i else []
def sumB (n : Nat) : List UInt8 := bytesOf (putD 8 48 6 n ++ [0]) ++ [32]
theorem sumB_length (n : Nat) : (sumB n).length = 8 := by simp [sumB, bytesOf_length, putD_length]
def own2 (h : HeadV) (p s : List UInt8) : Nat → List UInt8 := upd (own1 h p s) 6 (sumB (sumTo (blockA (own1 h p s)) 512))
def putR (h : HeadV) : Option (List UInt8) :=
  match cutR h.name with
  | none => none
  | some ps => if badH h || !numsOk h then none else some (blockA (own2 h ps.1 ps.2))
theorem own1_fits {h : HeadV} {p s : List UInt8} (hs : s.length ≤ 100) (hp : p.length ≤ 155) (hl : h.link.length ≤ 100) (hn : numsOk h = true) : Fits (own1 h p s) := fun i => by
  unfold own1
  by_cases hi : i < 11
  · rcases cases11 hi with rfl | rfl | rfl | rfl | rfl | rfl | rfl | rfl | rfl | rfl | rfl
    · simpa [wideF] using padTo_length hs
    · simpa using numB_length (numsOk_iff.1 hn 1 (by omega) (by omega))
    · simpa using numB_length (numsOk_iff.1 hn 2 (by omega) (by omega))
    · simpa using numB_length (numsOk_iff.1 hn 3 (by omega) (by omega))
    · simpa using numB_length (numsOk_iff.1 hn 4 (by omega) (by omega))
    · simpa using numB_length (numsOk_iff.1 hn 5 (by omega) (by omega))
    · simp [wideF]
    · simp [wideF]
    · simpa [wideF] using padTo_length hl
    · simp [wideF, ustarB]
    · simpa [wideF] using padTo_length hp
  · rw [wide_none hi, if_neg (by omega), if_neg (by omega), if_neg (by omega), if_neg (by omega), if_neg (by omega), if_neg (by omega), if_neg (by omega)]
    rfl
theorem own2_fits {h : HeadV} {p s : List UInt8} (hs : s.length ≤ 100) (hp : p.length ≤ 155) (hl : h.link.length ≤ 100) (hn : numsOk h = true) : Fits (own2 h p s) :=
  (own1_fits hs hp hl hn).upd (by rw [sumB_length]; rfl)
theorem restD6 {n : Nat} (h : n < 262144) : restD 8 6 n = 0 := by
  simp only [restD]
  omega
theorem putF_sum {n : Nat} (h : n < 262144) : putF n 7 = some (putD 8 48 6 n ++ [0]) := putF_fits (by omega) (by omega) (by omega) (by omega) (restD6 h)
theorem parseF_sum {n : Nat} (h : n < 262144) : parseF (sumB n) = some (n : Int) := by
  have := parseF_octal n 6 (by omega) (by omega) (by omega) (restD6 h) [] [0, 32] (by simp) (by simp)
  rw [List.nil_append] at this
  rw [sumB, bytesOf_append, List.append_assoc]
  exact this
theorem badH_spec {h : HeadV} (hb : badH h = false) : h.gnu = false ∧ h.kind ≠ 0 ∧ h.link.length ≤ 100 ∧ (∀ x ∈ h.name, x ≠ 0) ∧ (∀ x ∈ h.link, x ≠ 0) := by
  simp only [badH, Bool.or_eq_false_iff, beq_eq_false_iff_ne, decide_eq_false_iff_not, List.contains_eq_mem, ne_eq] at hb
  obtain ⟨⟨⟨⟨h1, h2⟩, h3⟩, h4⟩, h5⟩ := hb
  exact ⟨h1, h2, by omega, fun x hx e => h4 (e ▸ hx), fun x hx e => h5 (e ▸ hx)⟩
/-- a block that has the fields of h, and a right sum, says h -/
theorem headR_of {h : HeadV} {p s : List UInt8} (hc : cutR h.name = some (p, s)) (hb : badH h = false) (hn : numsOk h = true) {bs : List UInt8} (hl : bs.length = 512)
    (hf : ∀ i, i < 11 → i ≠ 6 → fieldB bs i = own1 h p s i) (h6 : fieldB bs 6 = sumB (sumTo bs 512)) : headR bs = (h, 0) := by
  obtain ⟨hg, hk, hlk, hz1, hz2⟩ := badH_spec hb
  obtain ⟨hs, hp, hps⟩ := cutR_spec hc
  have hsum := sumTo_le bs 512
  have hnum : ∀ i, 1 ≤ i → i ≤ 5 → parseF (fieldB bs i) = some (numH h i) := fun i h1 h2 => by
    obtain ⟨l, hl⟩ := Option.isSome_iff_exists.1 (numsOk_iff.1 hn i h1 h2)
    rw [hf i (by omega) (by omega), own1, if_neg (by omega), if_neg (by omega), if_neg (by omega), if_neg (by omega), if_neg (by omega), if_neg (by omega), if_pos h2, numB_some hl]
    exact parseF_putF hl
  have e9 : fieldB bs 9 = ustarB := by rw [hf 9 (by omega) (by omega)]; simp [own1]
  rw [headR_ok hl (by rw [h6]; exact parseF_sum (by omega)) (Or.inl e9) (numsOkB_iff.2 fun i h1 h2 => by rw [hnum i h1 h2]; rfl)]
  have e0 : untilB (fieldB bs 0) = s := by
    rw [hf 0 (by omega) (by omega)]
    refine untilB_app (fun x hx => hz1 x ?_) _
    rcases hps with ⟨_, rfl⟩ | ⟨_, e⟩
    · exact hx
    · rw [e]; simp [hx]
  have e10 : untilB (fieldB bs 10) = p := by
    rw [hf 10 (by omega) (by omega)]
    refine untilB_app (fun x hx => hz1 x ?_) _
    rcases hps with ⟨rfl, _⟩ | ⟨_, e⟩
    · simp at hx
    · rw [e]; simp [hx]
  have e8 : untilB (fieldB bs 8) = h.link := by
    rw [hf 8 (by omega) (by omega)]
    exact untilB_app hz2 _
  have e7 : kindB bs = h.kind := by
    have : fieldB bs 7 = [h.kind] := by rw [hf 7 (by omega) (by omega)]; simp [own1]
    rw [kindB, this]
    exact if_neg hk
  have eg : gnuOf bs = false := by rw [gnuOf, e9]; decide
  have ev : ∀ i, 1 ≤ i → i ≤ 5 → valB bs i = numH h i := fun i h1 h2 => by rw [valB, hnum i h1 h2]; rfl
  have en : nameF p s false = h.name := by
    unfold nameF
    rcases hps with ⟨rfl, rfl⟩ | ⟨hne, e⟩
    · rw [if_pos (Or.inr rfl)]
    · rw [if_neg (by simp [hne]), e]
  rw [theHead, e0, e10, e8, e7, eg, ev 1 (by omega) (by omega), ev 2 (by omega) (by omega), ev 3 (by omega) (by omega), ev 4 (by omega) (by omega), ev 5 (by omega) (by omega), en]
  cases h
  simp only [numH] at *
  rw [hg]
theorem putR_some {h : HeadV} {bs : List UInt8} (hp : putR h = some bs) : ∃ p s, cutR h.name = some (p, s) ∧ badH h = false ∧ numsOk h = true ∧ bs = blockA (own2 h p s) := by
  unfold putR at hp
  cases hc : cutR h.name with
  | none => rw [hc] at hp; cases hp
  | some ps =>
    rw [hc] at hp
    simp only at hp
    split at hp
    · cases hp
    · rename_i hh
      simp only [Bool.or_eq_true, Bool.not_eq_true', not_or, Bool.not_eq_true, Bool.not_eq_false] at hh
      exact ⟨ps.1, ps.2, rfl, hh.1, hh.2, (Option.some.inj hp).symm⟩
theorem own2_field {h : HeadV} {p s : List UInt8} (hc : cutR h.name = some (p, s)) (hb : badH h = false) (hn : numsOk h = true) :
    (∀ i, i < 11 → i ≠ 6 → fieldB (blockA (own2 h p s)) i = own1 h p s i) ∧ fieldB (blockA (own2 h p s)) 6 = sumB (sumTo (blockA (own2 h p s)) 512) := by
  obtain ⟨hg, hk, hlk, hz1, hz2⟩ := badH_spec hb
  obtain ⟨hs, hp, hps⟩ := cutR_spec hc
  have hfit := own2_fits hs hp hlk hn
  refine ⟨fun i hi h6 => by rw [field_blockA hfit hi, own2, upd_other _ _ h6], ?_⟩
  rw [field_blockA hfit (by omega), own2, upd_same]
  refine congrArg sumB (sumTo_congr fun x hx hn => ?_)
  rw [blockA_get _ hx, blockA_get _ hx, upd_other _ _ (fun e => hn ((fld_iff (by omega)).1 e))]
theorem headR_put {h : HeadV} {bs : List UInt8} (hp : putR h = some bs) : headR bs = (h, 0) := by
  obtain ⟨p, s, hc, hb, hn, rfl⟩ := putR_some hp
  have := own2_field hc hb hn
  exact headR_of hc hb hn (blockA_length _) this.1 this.2
theorem fieldB_set (bs : List UInt8) (k : Nat) (v : UInt8) (i : Nat) (hi : i < 11) (h : fld k ≠ i) (hl : bs.length = 512) (hk : k < 512) : fieldB (bs.set k v) i = fieldB bs i := by
  refine getD_ext (by rw [fieldB_length (by simpa using hl) hi, fieldB_length hl hi]) fun x hx => ?_
  rw [fieldB_length (by simpa using hl) hi] at hx
  have := field_in hi
  rw [fieldB_get _ _ _ hx, fieldB_get _ _ _ hx, getD_set _ _ _ _ (by omega), if_neg]
  intro e
  exact h ((fld_iff hi).2 (by omega))
/-- a byte that is no more as it was, outside the sum's field -/
theorem headR_turned {h : HeadV} {bs : List UInt8} (hp : putR h = some bs) {k : Nat} (hk : k < 512) (hn : ¬ (148 ≤ k ∧ k < 156)) {v : UInt8} (hv : v ≠ bs.getD k 0) : headR (bs.set k v) = (zeroH, 3) := by
  obtain ⟨p, s, hc, hb, hno, rfl⟩ := putR_some hp
  have hl := blockA_length (own2 h p s)
  have hf := (own2_field hc hb hno).2
  have hsum := sumTo_le (blockA (own2 h p s)) 512
  refine headR_sum (by simpa using hl) ?_
  rw [fieldB_set _ _ _ 6 (by omega) (fun e => hn ((fld_iff (by omega)).1 e)) hl hk, hf, parseF_sum (by omega)]
  have h1 := sumTo_set v (bs := blockA (own2 h p s)) (k := k) (by omega) hn (n := 512) hk
  intro e
  have e := Option.some.inj e
  have h2 : v.toNat ≠ ((blockA (own2 h p s)).getD k 0).toNat := fun e => hv (UInt8.toNat_inj.1 e)
  omega
/-- a byte of no field is another one, and the sum is written anew -/
theorem headR_free {h : HeadV} {bs : List UInt8} (hp : putR h = some bs) {k : Nat} (hk : k < 512) (hn : fld k = 11) (v : UInt8) {l : List Int} (hl : putF (sumTo (bs.set k v) 512 : Nat) 7 = some l) : headR (splice (bs.set k v) 148 (bytesOf l)) = (h, 0) := by
  obtain ⟨p, s, hc, hb, hno, rfl⟩ := putR_some hp
  obtain ⟨hf1, hf6⟩ := own2_field hc hb hno
  generalize hB : blockA (own2 h p s) = B at *
  have hlB : B.length = 512 := by rw [← hB]; exact blockA_length _
  have hsum := sumTo_le (B.set k v) 512
  rw [putF_sum (by omega)] at hl
  have hl := Option.some.inj hl
  have hll : (bytesOf l).length = 7 := by rw [← hl]; simp [bytesOf_length, putD_length]
  have hset : (B.set k v).length = 512 := by simpa using hlB
  have hL : (splice (B.set k v) 148 (bytesOf l)).length = 512 := by rw [length_splice _ _ _ (by omega), hset]
  have hg : ∀ x, (splice (B.set k v) 148 (bytesOf l)).getD x 0 = if 148 ≤ x ∧ x < 155 then (bytesOf l).getD (x - 148) 0 else (B.set k v).getD x 0 := fun x => by
    rw [splice_get _ _ _ _ (by omega), hll]
  have hs : sumTo (splice (B.set k v) 148 (bytesOf l)) 512 = sumTo (B.set k v) 512 := sumTo_congr fun x hx hn => by rw [hg, if_neg (by omega)]
  refine headR_of hc hb hno hL (fun i hi h6 => ?_) ?_
  · rw [← hf1 i hi h6, ← fieldB_set B k v i hi (by omega) hlB hk]
    refine getD_ext (by rw [fieldB_length hL hi, fieldB_length hset hi]) fun x hx => ?_
    rw [fieldB_length hL hi] at hx
    rw [fieldB_get _ _ _ hx, fieldB_get _ _ _ hx, hg, if_neg]
    intro e
    have h1 : fld (atF i + x) = i := (fld_iff hi).2 (by omega)
    have h2 : fld (atF i + x) = 6 := (fld_iff (by omega)).2 (show 148 ≤ atF i + x ∧ atF i + x < 148 + 8 by omega)
    omega
  · rw [hs]
    refine getD_ext (by rw [fieldB_length hL (by omega), sumB_length]; rfl) fun x hx => ?_
    rw [fieldB_length hL (by omega)] at hx
    have hx8 : x < 8 := hx
    rw [fieldB_get _ _ _ hx, hg, show atF 6 + x = 148 + x from rfl, sumB, hl]
    by_cases h7 : x < 7
    · rw [if_pos (by omega), show 148 + x - 148 = x by omega]
      simp only [List.getD]
      rw [List.getElem?_append_left (by omega)]
    · obtain rfl : x = 7 := by omega
      rw [if_neg (by omega), getD_set _ _ _ _ (by omega), if_neg (by
        intro e
        have : fld k = 6 := (fld_iff (by omega)).2 (show 148 ≤ k ∧ k < 148 + 8 by omega)
        omega)]
      have h7 : (fieldB B 6).getD 7 0 = B.getD 155 0 := fieldB_get B 6 7 (by decide)
      rw [show 148 + 7 = 155 from rfl, ← h7, hf6, sumB]
      simp only [List.getD]
      rw [List.getElem?_append_right (by simp [bytesOf_length, putD_length]), List.getElem?_append_right (by omega)]
      simp [bytesOf_length, putD_length, hll]
end Go.Proofs.YtdjedimjhogdoaaGreatDoor.Hp
end
section
namespace Go.Proofs.YtdjedimjhogdoaaGreatDoor.Path
open Go.Lib
set_option linter.unusedVariables false

/-! ### right texts -/
/-- how many bytes a code point has that begins with this byte; 0: none does -/
def wideC (c : Nat) : Nat := if c = 0 then 0 else if c < 128 then 1 else if 194 ≤ c ∧ c < 224 then 2 else if 224 ≤ c ∧ c < 240 then 3 else if 240 ≤ c ∧ c < 245 then 4 else 0
/-- the k-th byte -/
def at_ (l : List UInt8) (k : Nat) : Nat := (l.getD k 0).toNat
/-- a byte that goes on -/
def isCont (c : Nat) : Prop := 128 ≤ c ∧ c ≤ 191
instance (c : Nat) : Decidable (isCont c) := inferInstanceAs (Decidable (_ ∧ _))
/-- the second byte of a form that is too long, of a surrogate half, or of what is too great -/
def isBad (n c b : Nat) : Prop := (n = 3 ∧ (c = 224 ∧ b < 160 ∨ c = 237 ∧ 159 < b)) ∨ (n = 4 ∧ (c = 240 ∧ b < 144 ∨ c = 244 ∧ 143 < b))
instance (n c b : Nat) : Decidable (isBad n c b) := inferInstanceAs (Decidable (_ ∨ _))
/-- does a code point stand at the beginning? -/
def headOk (l : List UInt8) : Prop :=
  wideC (at_ l 0) ≠ 0 ∧ wideC (at_ l 0) ≤ l.length ∧ (∀ k, k < wideC (at_ l 0) → 0 < k → isCont (at_ l k)) ∧ ¬ isBad (wideC (at_ l 0)) (at_ l 0) (at_ l 1)
instance (l : List UInt8) : Decidable (headOk l) := inferInstanceAs (Decidable (_ ∧ _ ∧ _ ∧ _))
/-- right from here on -/
def textGo : Nat → List UInt8 → Bool
  | 0, _ => true
  | n + 1, l => if l = [] then true else if headOk l then textGo n (l.drop (wideC (at_ l 0))) else false
/-- a right text -/
def textD (l : List UInt8) : Bool := textGo l.length l

theorem wide_le (c : Nat) : wideC c ≤ 4 := by unfold wideC; repeat' split
                                              all_goals omega
theorem textGo_fuel (n : Nat) : ∀ m l, l.length ≤ n → l.length ≤ m → textGo n l = textGo m l := by
  induction n with
  | zero =>
    intro m l h _
    have : l = [] := List.length_eq_zero_iff.1 (by omega)
    subst this
    cases m <;> simp [textGo]
  | succ n ih =>
    intro m l h1 h2
    cases m with
    | zero =>
      have : l = [] := List.length_eq_zero_iff.1 (by omega)
      subst this
      simp [textGo]
    | succ m =>
      unfold textGo
      by_cases hl : l = []
      · rw [if_pos hl, if_pos hl]
      · rw [if_neg hl, if_neg hl]
        by_cases hh : headOk l
        · rw [if_pos hh, if_pos hh]
          have : 0 < wideC (at_ l 0) := Nat.pos_of_ne_zero hh.1
          have hl' : 0 < l.length := List.length_pos_iff.2 hl
          exact ih m _ (by rw [List.length_drop]; omega) (by rw [List.length_drop]; omega)
        · rw [if_neg hh, if_neg hh]
theorem textD_nil : textD [] = true := rfl
theorem textD_step (l : List UInt8) (hl : l ≠ []) : textD l = if headOk l then textD (l.drop (wideC (at_ l 0))) else false := by
  have hl' : 0 < l.length := List.length_pos_iff.2 hl
  unfold textD
  obtain ⟨n, hn⟩ : ∃ n, l.length = n + 1 := ⟨l.length - 1, by omega⟩
  rw [hn, textGo, if_neg hl]
  by_cases hh : headOk l
  · rw [if_pos hh, if_pos hh]
    have : 0 < wideC (at_ l 0) := Nat.pos_of_ne_zero hh.1
    exact textGo_fuel _ _ _ (by rw [List.length_drop]; omega) (Nat.le_refl _)
  · rw [if_neg hh, if_neg hh]

/-! ### .. by the library's decoder -/
theorem get_at (l : List UInt8) (k : Nat) : ((⟨l.toArray⟩ : ByteArray).get! k).toNat = at_ l k := by
  unfold at_ ByteArray.get!
  simp only [Array.getElem!_eq_getD]
  by_cases h : k < l.length
  · simp [Array.getD, List.getD, h]
  · simp [Array.getD, List.getD, h]
    rfl
theorem decode_eq (l : List UInt8) : decodeL l =
    (if at_ l 0 < 128 then (at_ l 0, 1)
     else if at_ l 0 / 32 = 6 ∧ (1 < l.length ∧ at_ l 1 / 64 = 2) then
      (if 128 ≤ at_ l 0 % 32 * 64 + at_ l 1 % 64 then (at_ l 0 % 32 * 64 + at_ l 1 % 64, 2) else (65533, 1))
     else if at_ l 0 / 16 = 14 ∧ (1 < l.length ∧ at_ l 1 / 64 = 2) ∧ (2 < l.length ∧ at_ l 2 / 64 = 2) then
      (if 2048 ≤ at_ l 0 % 16 * 4096 + at_ l 1 % 64 * 64 + at_ l 2 % 64 ∧ Utf8.valid (at_ l 0 % 16 * 4096 + at_ l 1 % 64 * 64 + at_ l 2 % 64 : Nat) = true then (at_ l 0 % 16 * 4096 + at_ l 1 % 64 * 64 + at_ l 2 % 64, 3) else (65533, 1))
     else if at_ l 0 / 8 = 30 ∧ (1 < l.length ∧ at_ l 1 / 64 = 2) ∧ (2 < l.length ∧ at_ l 2 / 64 = 2) ∧ (3 < l.length ∧ at_ l 3 / 64 = 2) then
      (if 65536 ≤ at_ l 0 % 8 * 262144 + at_ l 1 % 64 * 4096 + at_ l 2 % 64 * 64 + at_ l 3 % 64 ∧ Utf8.valid (at_ l 0 % 8 * 262144 + at_ l 1 % 64 * 4096 + at_ l 2 % 64 * 64 + at_ l 3 % 64 : Nat) = true then (at_ l 0 % 8 * 262144 + at_ l 1 % 64 * 4096 + at_ l 2 % 64 * 64 + at_ l 3 % 64, 4) else (65533, 1))
     else (65533, 1)) := by
  unfold decodeL Utf8.decode
  simp only [Nat.zero_add, get_at, show (⟨l.toArray⟩ : ByteArray).size = l.length by simp [ByteArray.size], Utf8.runeError, ge_iff_le, Bool.and_eq_true, decide_eq_true_eq, beq_iff_eq, and_assoc]
theorem at_lt (l : List UInt8) (k : Nat) : at_ l k < 256 := (l.getD k 0).toNat_lt
theorem valid_iff (c : Nat) : Utf8.valid (c : Int) = true ↔ (c < 55296 ∨ (57344 ≤ c ∧ c ≤ 1114111)) := by
  unfold Utf8.valid
  simp only [Bool.or_eq_true, Bool.and_eq_true, decide_eq_true_eq]
  omega
/-- what the decoder finds is what stands there -/
theorem head_decode (l : List UInt8) (hl : l ≠ []) (h0 : at_ l 0 ≠ 0) :
    (headOk l → ¬ ((decodeL l).1 = 65533 ∧ (decodeL l).2 = 1) ∧ (decodeL l).2 = wideC (at_ l 0)) ∧ (¬ headOk l → (decodeL l).1 = 65533 ∧ (decodeL l).2 = 1) := by
  have hl' : 0 < l.length := List.length_pos_iff.2 hl
  rw [decode_eq]
  simp only [valid_iff]
  have b0 := at_lt l 0
  have b1 := at_lt l 1
  have b2 := at_lt l 2
  have b3 := at_lt l 3
  have key : headOk l ↔ wideC (at_ l 0) ≠ 0 ∧ wideC (at_ l 0) ≤ l.length ∧ (1 < wideC (at_ l 0) → isCont (at_ l 1)) ∧ (2 < wideC (at_ l 0) → isCont (at_ l 2)) ∧ (3 < wideC (at_ l 0) → isCont (at_ l 3)) ∧ ¬ isBad (wideC (at_ l 0)) (at_ l 0) (at_ l 1) := by
    have h4 := wide_le (at_ l 0)
    constructor
    · rintro ⟨h1, h2, h3, h5⟩
      exact ⟨h1, h2, fun h => h3 1 h (by omega), fun h => h3 2 h (by omega), fun h => h3 3 h (by omega), h5⟩
    · rintro ⟨h1, h2, h3, h5, h6, h7⟩
      refine ⟨h1, h2, fun k hk hk0 => ?_, h7⟩
      rcases (show k = 1 ∨ k = 2 ∨ k = 3 by omega) with rfl | rfl | rfl
      · exact h3 hk
      · exact h5 hk
      · exact h6 hk
  rw [key]
  generalize at_ l 0 = c0 at *
  generalize at_ l 1 = c1 at *
  generalize at_ l 2 = c2 at *
  generalize at_ l 3 = c3 at *
  generalize l.length = n at *
  clear key hl
  by_cases h1 : c0 < 128
  · have hw : wideC c0 = 1 := by unfold wideC; rw [if_neg h0, if_pos h1]
    rw [hw, if_pos h1]
    unfold isBad
    refine ⟨fun _ => ⟨by simp; omega, rfl⟩, fun h => absurd ?_ h⟩
    exact ⟨by omega, by omega, fun h => by omega, fun h => by omega, fun h => by omega, by omega⟩
  · rw [if_neg h1]
    by_cases h2 : 194 ≤ c0 ∧ c0 < 224
    · have hw : wideC c0 = 2 := by unfold wideC; rw [if_neg h0, if_neg h1, if_pos h2]
      rw [hw]
      by_cases hc : 1 < n ∧ c1 / 64 = 2
      · rw [if_pos ⟨by omega, hc⟩, if_pos (by omega)]
        unfold isCont isBad
        refine ⟨fun _ => ⟨by simp, rfl⟩, fun h => absurd ?_ h⟩
        exact ⟨by omega, by omega, fun _ => by omega, fun h => by omega, fun h => by omega, by omega⟩
      · rw [if_neg (by omega), if_neg (by omega), if_neg (by omega)]
        unfold isCont
        refine ⟨fun h => absurd ?_ hc, fun _ => ⟨rfl, rfl⟩⟩
        have := h.2.1
        have := h.2.2.1 (by omega)
        omega
    · by_cases h3 : 224 ≤ c0 ∧ c0 < 240
      · have hw : wideC c0 = 3 := by unfold wideC; rw [if_neg h0, if_neg h1, if_neg h2, if_pos h3]
        rw [hw, if_neg (by omega)]
        by_cases hc : (1 < n ∧ c1 / 64 = 2) ∧ (2 < n ∧ c2 / 64 = 2)
        · rw [if_pos ⟨by omega, hc.1, hc.2⟩]
          by_cases hb : isBad 3 c0 c1
          · rw [if_neg (by unfold isBad at hb; omega)]
            exact ⟨fun h => absurd hb h.2.2.2.2.2, fun _ => ⟨rfl, rfl⟩⟩
          · rw [if_pos (by unfold isBad at hb; omega)]
            refine ⟨fun _ => ⟨by simp, rfl⟩, fun h => absurd ?_ h⟩
            unfold isCont
            exact ⟨by omega, by omega, fun _ => by omega, fun _ => by omega, fun h => by omega, hb⟩
        · rw [if_neg (by omega), if_neg (by omega)]
          unfold isCont
          refine ⟨fun h => absurd ?_ hc, fun _ => ⟨rfl, rfl⟩⟩
          have := h.2.1
          have := h.2.2.1 (by omega)
          have := h.2.2.2.1 (by omega)
          omega
      · by_cases h4 : 240 ≤ c0 ∧ c0 < 245
        · have hw : wideC c0 = 4 := by unfold wideC; rw [if_neg h0, if_neg h1, if_neg h2, if_neg h3, if_pos h4]
          rw [hw, if_neg (by omega), if_neg (by omega)]
          by_cases hc : (1 < n ∧ c1 / 64 = 2) ∧ (2 < n ∧ c2 / 64 = 2) ∧ (3 < n ∧ c3 / 64 = 2)
          · rw [if_pos ⟨by omega, hc.1, hc.2.1, hc.2.2⟩]
            by_cases hb : isBad 4 c0 c1
            · rw [if_neg (by unfold isBad at hb; omega)]
              exact ⟨fun h => absurd hb h.2.2.2.2.2, fun _ => ⟨rfl, rfl⟩⟩
            · rw [if_pos (by unfold isBad at hb; omega)]
              refine ⟨fun _ => ⟨by simp, rfl⟩, fun h => absurd ?_ h⟩
              unfold isCont
              exact ⟨by omega, by omega, fun _ => by omega, fun _ => by omega, fun _ => by omega, hb⟩
          · rw [if_neg (by omega)]
            unfold isCont
            refine ⟨fun h => absurd ?_ hc, fun _ => ⟨rfl, rfl⟩⟩
            have := h.2.1
            have := h.2.2.1 (by omega)
            have := h.2.2.2.1 (by omega)
            have := h.2.2.2.2.1 (by omega)
            omega
        · have hw : wideC c0 = 0 := by unfold wideC; rw [if_neg h0, if_neg h1, if_neg h2, if_neg h3, if_neg h4]
          rw [hw]
          refine ⟨fun h => absurd rfl h.1, fun _ => ?_⟩
          by_cases g2 : c0 / 32 = 6 ∧ 1 < n ∧ c1 / 64 = 2
          · rw [if_pos g2, if_neg (by omega)]
            exact ⟨rfl, rfl⟩
          · rw [if_neg g2, if_neg (by omega)]
            by_cases g4 : c0 / 8 = 30 ∧ (1 < n ∧ c1 / 64 = 2) ∧ (2 < n ∧ c2 / 64 = 2) ∧ (3 < n ∧ c3 / 64 = 2)
            · rw [if_pos g4, if_neg (by omega)]
              exact ⟨rfl, rfl⟩
            · rw [if_neg g4]
              exact ⟨rfl, rfl⟩
theorem at_zero_of (b : UInt8) (l : List UInt8) : at_ (b :: l) 0 = b.toNat := rfl
theorem textGo_valid (n : Nat) : ∀ l : List UInt8, l.length ≤ n → textGo n l = (validGoD n l && !(l.contains 0)) := by
  induction n with
  | zero =>
    intro l h
    have : l = [] := List.length_eq_zero_iff.1 (by omega)
    subst this
    rfl
  | succ n ih =>
    intro l h
    unfold textGo validGoD
    by_cases hl : l = []
    · subst hl; rfl
    · rw [if_neg hl, if_neg hl]
      by_cases h0 : at_ l 0 = 0
      · have hc : l.contains 0 = true := by
          cases l with
          | nil => exact absurd rfl hl
          | cons b t =>
            have : b = 0 := UInt8.toNat_inj.1 (by simpa [at_] using h0)
            subst this
            simp
        rw [hc, if_neg (fun hh => hh.1 (by rw [h0]; rfl))]
        simp
      · obtain ⟨k1, k2⟩ := head_decode l hl h0
        by_cases hh : headOk l
        · rw [if_pos hh, if_neg (k1 hh).1, (k1 hh).2]
          have hw : 0 < wideC (at_ l 0) := Nat.pos_of_ne_zero hh.1
          have hl' : 0 < l.length := List.length_pos_iff.2 hl
          rw [ih _ (by rw [List.length_drop]; omega)]
          congr 2
          rw [Bool.eq_iff_iff]
          simp only [List.contains_iff_mem]
          constructor
          · exact fun h => List.mem_of_mem_drop h
          · intro h
            rw [← List.take_append_drop (wideC (at_ l 0)) l, List.mem_append] at h
            rcases h with h | h
            · obtain ⟨i, hi, he⟩ := List.mem_iff_getElem.1 h
              rw [List.length_take] at hi
              rw [List.getElem_take] at he
              have hz : at_ l i = 0 := by unfold at_; rw [List.getD, List.getElem?_eq_getElem (by omega), he]; rfl
              by_cases hi0 : i = 0
              · subst hi0; exact absurd hz h0
              · have := hh.2.2.1 i (by omega) (by omega)
                unfold isCont at this
                omega
            · exact h
        · rw [if_neg hh, if_pos (k2 hh)]
          simp
/-- a right text: valid, and without a byte 0 -/
theorem text_valid (l : List UInt8) : textD l = (validD l && !(l.contains 0)) := textGo_valid _ l (Nat.le_refl _)

/-! ### a slash parts right texts -/
theorem at_left (x z : List UInt8) (k : Nat) (h : k < x.length) : at_ (x ++ z) k = at_ x k := by
  unfold at_
  simp [List.getD, List.getElem?_append_left h]
theorem head_app (x z : List UInt8) (hx : x ≠ []) : headOk x → headOk (x ++ z) := by
  have hl : 0 < x.length := List.length_pos_iff.2 hx
  rintro ⟨h1, h2, h3, h4⟩
  have e0 := at_left x z 0 hl
  refine ⟨by rw [e0]; exact h1, by rw [e0, List.length_append]; omega, fun k hk hk0 => ?_, ?_⟩
  · rw [e0] at hk
    rw [at_left x z k (by omega)]
    exact h3 k hk hk0
  · rw [e0]
    by_cases hw : 1 < x.length
    · rwa [at_left x z 1 hw]
    · unfold isBad
      omega
theorem head_cut (x y : List UInt8) (hx : x ≠ []) : headOk (x ++ 47 :: y) → headOk x := by
  have hl : 0 < x.length := List.length_pos_iff.2 hx
  rintro ⟨h1, h2, h3, h4⟩
  have e0 := at_left x (47 :: y) 0 hl
  rw [e0] at h1 h2 h3 h4
  have hs : at_ (x ++ 47 :: y) x.length = 47 := by
    unfold at_
    simp [List.getD]
  have hw : wideC (at_ x 0) ≤ x.length := by
    rcases Nat.lt_or_ge x.length (wideC (at_ x 0)) with h | h
    · have := h3 x.length h hl
      rw [hs] at this
      unfold isCont at this
      omega
    · exact h
  refine ⟨h1, hw, fun k hk hk0 => ?_, ?_⟩
  · have := h3 k hk hk0
    rwa [at_left x _ k (by omega)] at this
  · by_cases hw : 1 < x.length
    · rwa [at_left x _ 1 hw] at h4
    · unfold isBad
      omega
theorem head_slash (y : List UInt8) : headOk (47 :: y) ∧ wideC (at_ (47 :: y) 0) = 1 := by
  have e : at_ (47 :: y) 0 = 47 := rfl
  have hw : wideC 47 = 1 := by decide
  refine ⟨⟨by rw [e, hw]; omega, by rw [e, hw]; simp, fun k hk hk0 => ?_, ?_⟩, by rw [e, hw]⟩
  · rw [e, hw] at hk; omega
  · rw [e, hw]; unfold isBad; omega
theorem text_slash (n : Nat) : ∀ x y : List UInt8, x.length ≤ n → textD (x ++ 47 :: y) = (textD x && textD y) := by
  induction n with
  | zero =>
    intro x y h
    have : x = [] := List.length_eq_zero_iff.1 (by omega)
    subst this
    obtain ⟨h1, h2⟩ := head_slash y
    rw [List.nil_append, textD_step _ (by simp), if_pos h1, h2]
    rfl
  | succ n ih =>
    intro x y h
    by_cases hx : x = []
    · subst hx
      exact ih [] y (by simp)
    · have hl : 0 < x.length := List.length_pos_iff.2 hx
      rw [textD_step (x ++ 47 :: y) (by simp), textD_step x hx]
      by_cases hh : headOk x
      · rw [if_pos hh, if_pos (head_app x _ hx hh), at_left x _ 0 hl, List.drop_append_of_le_length hh.2.1]
        have : 0 < wideC (at_ x 0) := Nat.pos_of_ne_zero hh.1
        exact ih _ y (by rw [List.length_drop]; omega)
      · rw [if_neg hh, if_neg (fun h => hh (head_cut x y hx h))]
        rfl
theorem text_join (x y : List UInt8) : textD (x ++ 47 :: y) = (textD x && textD y) := text_slash _ x y (Nat.le_refl _)

/-! ### parts -/
/-- what stands between slashes -/
def partsL : List UInt8 → List (List UInt8)
  | [] => [[]]
  | b :: l => if b = 47 then [] :: partsL l else (b :: (partsL l).headD []) :: (partsL l).tail
theorem parts_ne (l : List UInt8) : partsL l ≠ [] := by
  cases l with
  | nil => simp [partsL]
  | cons b l => unfold partsL; split <;> simp
theorem parts_plain (x : List UInt8) (h : (47 : UInt8) ∉ x) : partsL x = [x] := by
  induction x with
  | nil => rfl
  | cons b x ih =>
    have hb : b ≠ 47 := fun e => h (by simp [e])
    rw [partsL, if_neg hb, ih (fun h' => h (List.mem_cons_of_mem _ h'))]
    rfl
theorem parts_app (x y : List UInt8) : partsL (x ++ 47 :: y) = partsL x ++ partsL y := by
  induction x with
  | nil => simp [partsL]
  | cons b x ih =>
    by_cases hb : b = 47
    · subst hb
      simp [partsL, ih]
    · rw [List.cons_append, partsL, if_neg hb, partsL, if_neg hb, ih]
      cases hp : partsL x with
      | nil => exact absurd hp (parts_ne x)
      | cons p ps => simp
theorem parts_noslash (l : List UInt8) : ∀ p ∈ partsL l, (47 : UInt8) ∉ p := by
  induction l with
  | nil => simp [partsL]
  | cons b l ih =>
    unfold partsL
    by_cases hb : b = 47
    · rw [if_pos hb]
      intro p hp
      rcases List.mem_cons.1 hp with rfl | hp
      · simp
      · exact ih p hp
    · rw [if_neg hb]
      cases hq : partsL l with
      | nil => exact absurd hq (parts_ne l)
      | cons q qs =>
        rw [hq] at ih
        intro p hp
        rcases List.mem_cons.1 hp with rfl | hp
        · simp only [List.headD_cons]
          intro h
          rcases List.mem_cons.1 h with h | h
          · exact hb h.symm
          · exact ih q (by simp) h
        · exact ih p (List.mem_cons_of_mem _ hp)
/-- ahead of the first slash, and behind it -/
theorem parts_cut (l : List UInt8) : (0 ≤ indexByte l 47 → partsL l = l.take (indexByte l 47).toNat :: partsL (l.drop ((indexByte l 47).toNat + 1))) ∧ (¬ 0 ≤ indexByte l 47 → partsL l = [l]) := by
  induction l with
  | nil => exact ⟨fun h => by simp [indexByte] at h, fun _ => rfl⟩
  | cons b l ih =>
    have hge := indexByte_ge l 47
    by_cases hb : b = 47
    · subst hb
      have e : indexByte ((47 : UInt8) :: l) 47 = 0 := by simp [indexByte]
      rw [e]
      exact ⟨fun _ => by simp [partsL], fun h => absurd (by omega) h⟩
    · have hbb : (b == 47) = false := by simpa using hb
      by_cases hi : indexByte l 47 = -1
      · have e : indexByte (b :: l) 47 = -1 := by simp [indexByte, hbb, hi]
        rw [e]
        refine ⟨fun h => absurd h (by omega), fun _ => ?_⟩
        rw [partsL, if_neg hb, ih.2 (by omega)]
        rfl
      · have hi' : (indexByte l 47 == -1) = false := by simpa using hi
        have e : indexByte (b :: l) 47 = indexByte l 47 + 1 := by simp [indexByte, hbb, hi']
        rw [e, show (indexByte l 47 + 1).toNat = (indexByte l 47).toNat + 1 by omega]
        refine ⟨fun _ => ?_, fun h => absurd (by omega) h⟩
        rw [partsL, if_neg hb, ih.1 (by omega)]
        rfl
theorem parts_text (n : Nat) : ∀ l : List UInt8, l.length ≤ n → textD l = true → ∀ p ∈ partsL l, textD p = true := by
  induction n with
  | zero =>
    intro l h _ p hp
    have : l = [] := List.length_eq_zero_iff.1 (by omega)
    subst this
    simp [partsL] at hp
    subst hp
    rfl
  | succ n ih =>
    intro l h ht p hp
    obtain ⟨h1, h2⟩ := parts_cut l
    by_cases hi : 0 ≤ indexByte l 47
    · rw [h1 hi] at hp
      obtain ⟨k, hk⟩ : ∃ k : Nat, indexByte l 47 = k := ⟨(indexByte l 47).toNat, by omega⟩
      obtain ⟨hlt, hge⟩ := List.getElem?_eq_some_iff.1 (indexByte_some hk).1
      rw [hk] at hp
      have hs : l = l.take k ++ 47 :: l.drop (k + 1) := by
        rw [← hge, List.getElem_cons_drop, List.take_append_drop]
      rw [hs, text_join, Bool.and_eq_true] at ht
      rcases List.mem_cons.1 hp with rfl | hp
      · exact ht.1
      · exact ih _ (by rw [List.length_drop]; omega) ht.2 p hp
    · rw [h2 hi] at hp
      rcases List.mem_cons.1 hp with rfl | hp
      · exact ht
      · cases hp

/-! ### what is left -/
/-- a path with one more part -/
def joinP (c p : List UInt8) : List UInt8 := if p = [] ∨ p = [46] then c else if c = [] then p else c ++ 47 :: p
/-- the parts, one behind the other; none: one of them is .. -/
def goC : List UInt8 → List (List UInt8) → Option (List UInt8)
  | c, [] => some c
  | c, p :: ps => if p = [46, 46] then none else goC (joinP c p) ps
/-- .. and none, too, where it is too long -/
def goP : List UInt8 → List (List UInt8) → Option (List UInt8)
  | c, [] => some c
  | c, p :: ps => if p = [46, 46] ∨ 200 < (joinP c p).length then none else goP (joinP c p) ps
theorem joinP_le (c p : List UInt8) : c.length ≤ (joinP c p).length := by
  unfold joinP
  split
  · exact Nat.le_refl _
  · split
    · next h => simp [h]
    · simp
theorem goC_le (ps : List (List UInt8)) : ∀ c a, goC c ps = some a → c.length ≤ a.length := by
  induction ps with
  | nil => intro c a h; cases h; exact Nat.le_refl _
  | cons p ps ih =>
    intro c a h
    unfold goC at h
    split at h
    · cases h
    · exact Nat.le_trans (joinP_le c p) (ih _ _ h)
theorem goP_eq (ps : List (List UInt8)) : ∀ c, c.length ≤ 200 → goP c ps = (goC c ps).bind fun a => if a.length ≤ 200 then some a else none := by
  induction ps with
  | nil => intro c h; simp [goP, goC, h]
  | cons p ps ih =>
    intro c h
    unfold goP goC
    by_cases h1 : p = [46, 46]
    · rw [if_pos (.inl h1), if_pos h1]; rfl
    · by_cases h2 : 200 < (joinP c p).length
      · rw [if_pos (.inr h2), if_neg h1]
        cases hg : goC (joinP c p) ps with
        | none => rfl
        | some a =>
          have := goC_le ps _ _ hg
          rw [Option.bind_some, if_neg (by omega)]
      · rw [if_neg (fun h => h.elim h1 h2), if_neg h1]
        exact ih _ (by omega)
/-- P5.1: what is left of a text, and the error: 0, ErrText (T), ErrPath (P) -/
def cleanD (T P : Int) (l : List UInt8) : List UInt8 × Int :=
  if textD l = false then ([], T) else if l.headD 47 = 47 then ([], P) else
    match goC [] (partsL l) with
    | none => ([], P)
    | some a => if a = [] ∨ 200 < a.length then ([], P) else (a, 0)

/-- the parts that count -/
def keptL (ps : List (List UInt8)) : List (List UInt8) := ps.filter fun p => !(p == [] || p == [46])
/-- with one slash between -/
def withSlash : List (List UInt8) → List UInt8
  | [] => []
  | [p] => p
  | p :: q :: ps => p ++ 47 :: withSlash (q :: ps)
theorem slash_snoc (qs : List (List UInt8)) (p : List UInt8) : qs ≠ [] → withSlash (qs ++ [p]) = withSlash qs ++ 47 :: p := by
  induction qs with
  | nil => intro h; exact absurd rfl h
  | cons q qs ih =>
    intro _
    cases qs with
    | nil => rfl
    | cons r qs =>
      have := ih (by simp)
      simp only [List.cons_append] at this ⊢
      rw [withSlash, this, withSlash]
      simp
theorem slash_app (qs rs : List (List UInt8)) (hq : qs ≠ []) (hr : rs ≠ []) : withSlash (qs ++ rs) = withSlash qs ++ 47 :: withSlash rs := by
  induction qs with
  | nil => exact absurd rfl hq
  | cons q qs ih =>
    cases qs with
    | nil =>
      cases rs with
      | nil => exact absurd rfl hr
      | cons r rs => rfl
    | cons r qs =>
      have := ih (by simp)
      simp only [List.cons_append] at this ⊢
      rw [withSlash, this, withSlash]
      simp
theorem slash_nil (qs : List (List UInt8)) (h : ∀ q ∈ qs, q ≠ []) : withSlash qs = [] ↔ qs = [] := by
  constructor
  · intro e
    cases qs with
    | nil => rfl
    | cons q qs =>
      cases qs with
      | nil => exact absurd e (h q (by simp))
      | cons r qs => simp [withSlash] at e
  · rintro rfl; rfl
theorem kept_ne (ps : List (List UInt8)) : ∀ q ∈ keptL ps, q ≠ [] ∧ q ≠ [46] ∧ q ∈ ps := by
  intro q hq
  obtain ⟨h1, h2⟩ := List.mem_filter.1 hq
  simp at h2
  exact ⟨h2.1, h2.2, h1⟩
theorem goC_eq (ps : List (List UInt8)) : ∀ qs : List (List UInt8), (∀ q ∈ qs, q ≠ []) →
    goC (withSlash qs) ps = if [46, 46] ∈ ps then none else some (withSlash (qs ++ keptL ps)) := by
  induction ps with
  | nil => intro qs _; simp [goC, keptL]
  | cons p ps ih =>
    intro qs hqs
    unfold goC
    by_cases h1 : p = [46, 46]
    · rw [if_pos h1, if_pos (by simp [h1])]
    · rw [if_neg h1]
      have hm : ([46, 46] ∈ p :: ps) ↔ [46, 46] ∈ ps := by
        rw [List.mem_cons]
        exact ⟨fun h => h.elim (fun e => absurd e.symm h1) id, .inr⟩
      by_cases h2 : p = [] ∨ p = [46]
      · have e : joinP (withSlash qs) p = withSlash qs := by unfold joinP; rw [if_pos h2]
        have k : keptL (p :: ps) = keptL ps := by
          unfold keptL
          rw [List.filter_cons, if_neg (by simpa using fun h => h2.resolve_left h)]
        rw [e, ih qs hqs, k]
        simp only [hm]
      · have k : keptL (p :: ps) = p :: keptL ps := by
          unfold keptL
          rw [List.filter_cons, if_pos (by simpa using h2)]
        have e : joinP (withSlash qs) p = withSlash (qs ++ [p]) := by
          unfold joinP
          rw [if_neg h2]
          by_cases hq : qs = []
          · subst hq; rfl
          · rw [if_neg (fun h => hq ((slash_nil qs hqs).1 h)), slash_snoc qs p hq]
        rw [e, ih (qs ++ [p]) (by
          intro q hq
          rcases List.mem_append.1 hq with h | h
          · exact hqs q h
          · simp at h; subst h; exact fun e => h2 (.inl e)), k]
        simp only [hm, List.append_assoc, List.singleton_append]
theorem goC_parts (l : List UInt8) : goC [] (partsL l) = if [46, 46] ∈ partsL l then none else some (withSlash (keptL (partsL l))) := by
  have := goC_eq (partsL l) [] (by simp)
  rwa [List.nil_append] at this
/-- what is right about a path: what its answer is -/
theorem clean_ok (T P : Int) (hT : T ≠ 0) (hP : P ≠ 0) (l a : List UInt8) : cleanD T P l = (a, 0) ↔
    (textD l = true ∧ l.headD 47 ≠ 47 ∧ [46, 46] ∉ partsL l ∧ a = withSlash (keptL (partsL l)) ∧ keptL (partsL l) ≠ [] ∧ a.length ≤ 200) := by
  unfold cleanD
  rw [goC_parts]
  have hk : ∀ q ∈ keptL (partsL l), q ≠ [] := fun q hq => (kept_ne _ q hq).1
  cases ht : textD l with
  | false => simp [hT]
  | true =>
    rw [if_neg (by simp)]
    by_cases h0 : l.headD 47 = 47
    · rw [if_pos h0]
      exact ⟨fun h => absurd (Prod.mk.injEq .. ▸ h).2 hP, fun h => absurd h0 h.2.1⟩
    · rw [if_neg h0]
      by_cases hm : [46, 46] ∈ partsL l
      · rw [if_pos hm]
        simp [hP, hm]
      · rw [if_neg hm]
        simp only
        by_cases hn : keptL (partsL l) = []
        · rw [if_pos (.inl (by rw [hn]; rfl))]
          simp [hP, hn]
        · have hne : withSlash (keptL (partsL l)) ≠ [] := fun e => hn ((slash_nil _ hk).1 e)
          by_cases h2 : 200 < (withSlash (keptL (partsL l))).length
          · rw [if_pos (.inr h2)]
            constructor
            · intro h; simp [hP] at h
            · rintro ⟨_, _, _, rfl, _, h⟩; omega
          · rw [if_neg (fun h => h.elim hne h2)]
            constructor
            · intro h
              obtain ⟨rfl, _⟩ := Prod.mk.injEq .. ▸ h
              exact ⟨trivial, h0, hm, rfl, hn, by omega⟩
            · rintro ⟨_, _, _, rfl, _, _⟩; rfl
theorem parts_with (qs : List (List UInt8)) (hq : qs ≠ []) (h : ∀ q ∈ qs, (47 : UInt8) ∉ q) : partsL (withSlash qs) = qs := by
  induction qs with
  | nil => exact absurd rfl hq
  | cons q qs ih =>
    cases qs with
    | nil => exact parts_plain q (h q (by simp))
    | cons r qs =>
      rw [withSlash, parts_app, parts_plain q (h q (by simp)), ih (by simp) (fun p hp => h p (List.mem_cons_of_mem _ hp))]
      rfl
theorem text_with (qs : List (List UInt8)) (h : ∀ q ∈ qs, textD q = true) : textD (withSlash qs) = true := by
  induction qs with
  | nil => rfl
  | cons q qs ih =>
    cases qs with
    | nil => exact h q (by simp)
    | cons r qs =>
      rw [withSlash, text_join, h q (by simp), ih (fun p hp => h p (List.mem_cons_of_mem _ hp))]
      rfl
theorem head_with (qs : List (List UInt8)) (hq : qs ≠ []) (h : ∀ q ∈ qs, q ≠ [] ∧ (47 : UInt8) ∉ q) : (withSlash qs).headD 47 ≠ 47 := by
  have first : ∀ q : List UInt8, q ≠ [] → (47 : UInt8) ∉ q → ∀ z : List UInt8, (q ++ z).headD 47 ≠ 47 := by
    intro q hq hn z
    cases q with
    | nil => exact absurd rfl hq
    | cons b q => exact fun e => hn (by simp at e; simp [e])
  cases qs with
  | nil => exact absurd rfl hq
  | cons q qs =>
    obtain ⟨h1, h2⟩ := h q (by simp)
    cases qs with
    | nil =>
      have := first q h1 h2 []
      rwa [List.append_nil] at this
    | cons r qs => exact first q h1 h2 _
/-- the parts that a clean path is of -/
theorem clean_parts (T P : Int) (hT : T ≠ 0) (hP : P ≠ 0) (l a : List UInt8) (h : cleanD T P l = (a, 0)) :
    ∃ qs : List (List UInt8), qs ≠ [] ∧ (∀ q ∈ qs, q ≠ [] ∧ q ≠ [46] ∧ q ≠ [46, 46] ∧ (47 : UInt8) ∉ q ∧ textD q = true) ∧ a = withSlash qs ∧ keptL (partsL l) = qs ∧ a.length ≤ 200 ∧ textD l = true ∧ l.headD 47 ≠ 47 ∧ [46, 46] ∉ partsL l := by
  obtain ⟨h1, h2, h3, h4, h5, h6⟩ := (clean_ok T P hT hP l a).1 h
  refine ⟨_, h5, fun q hq => ?_, h4, rfl, h6, h1, h2, h3⟩
  obtain ⟨k1, k2, k3⟩ := kept_ne _ q hq
  exact ⟨k1, k2, fun e => h3 (e ▸ k3), parts_noslash l q k3, parts_text _ l (Nat.le_refl _) h1 q k3⟩
theorem kept_id (qs : List (List UInt8)) (h : ∀ q ∈ qs, q ≠ [] ∧ q ≠ [46]) : keptL qs = qs :=
  List.filter_eq_self.2 fun q hq => by simpa using h q hq
/-- a text that has the parts of a clean path, but for those that count for nothing -/
theorem clean_like (T P : Int) (hT : T ≠ 0) (hP : P ≠ 0) (qs : List (List UInt8)) (x : List UInt8) (hq : qs ≠ []) (h : ∀ q ∈ qs, q ≠ [] ∧ q ≠ [46] ∧ q ≠ [46, 46] ∧ (47 : UInt8) ∉ q ∧ textD q = true)
    (hl : (withSlash qs).length ≤ 200) (ht : textD x = true) (h0 : x.headD 47 ≠ 47) (hp : ∃ A B, partsL x = A ++ qs ++ B ∧ (∀ p ∈ A, p = [] ∨ p = [46]) ∧ (∀ p ∈ B, p = [] ∨ p = [46])) : cleanD T P x = (withSlash qs, 0) := by
  obtain ⟨A, B, hp, hA, hB⟩ := hp
  have none_ : ∀ C : List (List UInt8), (∀ p ∈ C, p = [] ∨ p = [46]) → keptL C = [] := fun C hC => List.filter_eq_nil_iff.2 fun p hp => by simpa using fun e => (hC p hp).resolve_left e
  have hk : keptL (partsL x) = qs := by
    have e : keptL (partsL x) = keptL A ++ keptL qs ++ keptL B := by rw [hp]; unfold keptL; rw [List.filter_append, List.filter_append]
    rw [e, none_ A hA, none_ B hB, kept_id qs fun q hq => ⟨(h q hq).1, (h q hq).2.1⟩]
    simp
  refine (clean_ok T P hT hP x _).2 ⟨ht, h0, ?_, by rw [hk], by rw [hk]; exact hq, hl⟩
  rw [hp]
  intro hm
  rcases List.mem_append.1 hm with hm | hm
  · rcases List.mem_append.1 hm with hm | hm
    · rcases hA _ hm with e | e <;> cases e
    · exact (h _ hm).2.2.1 rfl
  · rcases hB _ hm with e | e <;> cases e
/-- a clean path is its own -/
theorem clean_self (T P : Int) (hT : T ≠ 0) (hP : P ≠ 0) (l a : List UInt8) (h : cleanD T P l = (a, 0)) : cleanD T P a = (a, 0) ∧ a ≠ [] ∧ a.headD 47 ≠ 47 ∧ a.length ≤ 200 := by
  obtain ⟨qs, hq, hqs, rfl, _, hl, _⟩ := clean_parts T P hT hP l a h
  have hh := head_with qs hq fun q h => ⟨(hqs q h).1, (hqs q h).2.2.2.1⟩
  refine ⟨clean_like T P hT hP qs _ hq hqs hl (text_with qs fun q h => (hqs q h).2.2.2.2) hh ⟨[], [], by rw [parts_with qs hq fun q h => (hqs q h).2.2.2.1]; simp, by simp, by simp⟩, fun e => hq ((slash_nil qs fun q h => (hqs q h).1).1 e), hh, hl⟩
/-- so many parts . ahead, and behind -/
def moreD (i j : Nat) (a : List UInt8) : List UInt8 := (List.replicate i [46, 47]).flatten ++ a ++ (List.replicate j [47, 46]).flatten
theorem more_ahead (i j : Nat) (a : List UInt8) : [46, 47] ++ moreD i j a = moreD (i + 1) j a := by
  unfold moreD
  rw [List.replicate_succ]
  simp
theorem more_behind (i j : Nat) (a : List UInt8) : moreD i j a ++ [47, 46] = moreD i (j + 1) a := by
  unfold moreD
  rw [List.replicate_succ']
  simp
theorem more_parts (qs : List (List UInt8)) (hq : qs ≠ []) (hqs : ∀ q ∈ qs, q ≠ [] ∧ q ≠ [46] ∧ q ≠ [46, 46] ∧ (47 : UInt8) ∉ q ∧ textD q = true) (i j : Nat) :
    textD (moreD i j (withSlash qs)) = true ∧ (moreD i j (withSlash qs)).headD 47 ≠ 47 ∧ ∃ A B, partsL (moreD i j (withSlash qs)) = A ++ qs ++ B ∧ (∀ p ∈ A, p = [] ∨ p = [46]) ∧ (∀ p ∈ B, p = [] ∨ p = [46]) := by
  induction i with
  | zero =>
    induction j with
    | zero =>
      have e : moreD 0 0 (withSlash qs) = withSlash qs := by simp [moreD]
      rw [e]
      exact ⟨text_with qs fun q h => (hqs q h).2.2.2.2, head_with qs hq fun q h => ⟨(hqs q h).1, (hqs q h).2.2.2.1⟩, [], [], by rw [parts_with qs hq fun q h => (hqs q h).2.2.2.1]; simp, by simp, by simp⟩
    | succ j ih =>
      obtain ⟨h1, h2, A, B, h3, hA, hB⟩ := ih
      rw [← more_behind]
      refine ⟨?_, ?_, A, B ++ [[46]], ?_, hA, ?_⟩
      · rw [text_join, h1]; rfl
      · cases hm : moreD 0 j (withSlash qs) with
        | nil => rw [hm] at h2; simp at h2
        | cons b t => rw [hm] at h2; simpa using h2
      · rw [parts_app, h3]; simp [partsL]
      · intro p hp
        rcases List.mem_append.1 hp with h | h
        · exact hB p h
        · simp at h; exact .inr h
  | succ i ih =>
    obtain ⟨h1, h2, A, B, h3, hA, hB⟩ := ih
    rw [← more_ahead]
    refine ⟨?_, by simp, [46] :: A, B, ?_, ?_, hB⟩
    · rw [show [46, 47] ++ moreD i j (withSlash qs) = [46] ++ 47 :: moreD i j (withSlash qs) from rfl, text_join, h1]; rfl
    · rw [show [46, 47] ++ moreD i j (withSlash qs) = [46] ++ 47 :: moreD i j (withSlash qs) from rfl, parts_app, h3]; rfl
    · intro p hp
      rcases List.mem_cons.1 hp with h | h
      · exact .inr h
      · exact hA p h
/-- with parts that count for nothing it is the same -/
theorem clean_more (T P : Int) (hT : T ≠ 0) (hP : P ≠ 0) (l a : List UInt8) (h : cleanD T P l = (a, 0)) (i j : Nat) : cleanD T P (moreD i j a ++ [47]) = (a, 0) := by
  obtain ⟨qs, hq, hqs, rfl, _, hl, _⟩ := clean_parts T P hT hP l a h
  obtain ⟨h1, h2, A, B, h3, hA, hB⟩ := more_parts qs hq hqs i j
  refine clean_like T P hT hP qs _ hq hqs hl ?_ ?_ ⟨A, B ++ [[]], ?_, hA, ?_⟩
  · rw [text_join, h1]; rfl
  · cases hm : moreD i j (withSlash qs) with
    | nil => rw [hm] at h2; simp at h2
    | cons b t => rw [hm] at h2; simpa using h2
  · rw [parts_app, h3]; simp [partsL]
  · intro p hp
    rcases List.mem_append.1 hp with h | h
    · exact hB p h
    · simp at h; exact .inl h
/-- beside an error there is nothing -/
theorem clean_none (T P : Int) (l a : List UInt8) (e : Int) (h : cleanD T P l = (a, e)) (he : e ≠ 0) : a = [] := by
  unfold cleanD at h
  repeat' split at h
  all_goals first
    | (obtain ⟨rfl, _⟩ := Prod.mk.injEq .. ▸ h; rfl)
    | (obtain ⟨_, rfl⟩ := Prod.mk.injEq .. ▸ h; exact absurd rfl he)
/-- two paths, with a slash between -/
theorem clean_two (T P : Int) (hT : T ≠ 0) (hP : P ≠ 0) (l m a b : List UInt8) (h : cleanD T P l = (a, 0)) (h' : cleanD T P m = (b, 0)) :
    cleanD T P (l ++ 47 :: m) = if 200 < a.length + b.length + 1 then ([], P) else (a ++ 47 :: b, 0) := by
  obtain ⟨qs, hq, hqs, rfl, hk, hl, ht, h0, hd⟩ := clean_parts T P hT hP l a h
  obtain ⟨rs, hr, hrs, rfl, hk', hl', ht', h0', hd'⟩ := clean_parts T P hT hP m b h'
  have e0 : (l ++ 47 :: m).headD 47 ≠ 47 := by
    cases l with
    | nil => simp at h0
    | cons b t => simpa using h0
  have e1 : textD (l ++ 47 :: m) = true := by rw [text_join, ht, ht']; rfl
  have e2 : keptL (partsL (l ++ 47 :: m)) = qs ++ rs := by
    rw [parts_app, ← hk, ← hk']
    exact List.filter_append ..
  have e3 : [46, 46] ∉ partsL (l ++ 47 :: m) := by
    rw [parts_app]
    intro hm
    rcases List.mem_append.1 hm with hm | hm
    · exact hd hm
    · exact hd' hm
  have e4 : withSlash (qs ++ rs) = withSlash qs ++ 47 :: withSlash rs := slash_app qs rs hq hr
  have e5 : (withSlash qs ++ 47 :: withSlash rs).length = (withSlash qs).length + (withSlash rs).length + 1 := by
    rw [List.length_append, List.length_cons]; omega
  by_cases hn : 200 < (withSlash qs).length + (withSlash rs).length + 1
  · rw [if_pos hn]
    unfold cleanD
    rw [e1, if_neg (by simp), if_neg e0, goC_parts, if_neg e3, e2, e4]
    simp only
    rw [if_pos (.inr (by rw [e5]; exact hn))]
  · rw [if_neg hn]
    refine (clean_ok T P hT hP _ _).2 ⟨e1, e0, e3, by rw [e2, e4], by rw [e2]; simp [hq], by rw [e5]; omega⟩
/-- how the program reads it: too long is told at once -/
theorem clean_goP (T P : Int) (l : List UInt8) : cleanD T P l = if textD l = false then ([], T) else if l.head? = some 47 then ([], P) else
    match goP [] (partsL l) with
    | none => ([], P)
    | some a => if a = [] then ([], P) else (a, 0) := by
  unfold cleanD
  split
  · rfl
  · by_cases hl : l = []
    · subst hl
      simp [partsL, goP, joinP]
    · have hh : l.headD 47 = 47 ↔ l.head? = some 47 := by
        cases l with
        | nil => exact absurd rfl hl
        | cons b t => simp
      simp only [hh]
      split
      · rfl
      · rw [goP_eq _ [] (by simp)]
        cases hg : goC [] (partsL l) with
        | none => rfl
        | some a =>
          rw [Option.bind_some]
          by_cases h2 : a.length ≤ 200
          · rw [if_pos h2]
            by_cases ha : a = []
            · simp [ha]
            · simp [ha]; omega
          · rw [if_neg h2]
            show (if a = [] ∨ 200 < a.length then _ else _) = _
            rw [if_pos (.inr (by omega))]
/-- P5.2: may a symbolic link go there? -/
def targetD (T P : Int) (l : List UInt8) : Int := if textD l = false then T else if l = [] ∨ 200 < l.length then P else 0
end Go.Proofs.YtdjedimjhogdoaaGreatDoor.Path
end
section
namespace Go.Proofs.YtdjedimjhogdoaaGreatDoor.Rec
open Go.Lib Go.Proofs.YtdjedimjhogdoaaGreatDoor.Path
set_option linter.unusedVariables false

/-! ### digits -/
/-- one digit -/
def digC (n : Nat) : UInt8 := UInt8.ofNat (48 + n % 10)
theorem digC_nat (n : Nat) : (digC n).toNat = 48 + n % 10 := by
  unfold digC
  rw [UInt8.toNat_ofNat']
  omega
/-- a number's digits -/
def decL (n : Nat) : List UInt8 := if n < 10 then [digC n] else decL (n / 10) ++ [digC n]
termination_by n
decreasing_by omega
theorem decL_small {n : Nat} (h : n < 10) : decL n = [digC n] := by rw [decL, if_pos h]
theorem decL_great {n : Nat} (h : ¬ n < 10) : decL n = decL (n / 10) ++ [digC n] := by rw [decL, if_neg h]
theorem decL_pos (n : Nat) : 0 < (decL n).length := by
  by_cases h : n < 10
  · rw [decL_small h]; simp
  · rw [decL_great h]; simp
/-- the digits that are there, and those that are to come -/
theorem dec_step (m : Nat) (h : m ≠ 0) (s : List UInt8) : decL m ++ s = (if m / 10 = 0 then [] else decL (m / 10)) ++ digC m :: s := by
  by_cases h10 : m < 10
  · rw [decL_small h10, if_pos (by omega)]; rfl
  · rw [decL_great h10, if_neg (by omega)]; simp
theorem dec_bounds (n : Nat) : 0 < n → 10 ^ ((decL n).length - 1) ≤ n ∧ n < 10 ^ (decL n).length := by
  induction n using Nat.strongRecOn with
  | ind n ih =>
    intro hn
    by_cases h : n < 10
    · rw [decL_small h]
      simp; omega
    · rw [decL_great h, List.length_append, List.length_singleton, Nat.add_sub_cancel]
      obtain ⟨h1, h2⟩ := ih (n / 10) (by omega) (by omega)
      have hp := decL_pos (n / 10)
      have e : 10 ^ (decL (n / 10)).length = 10 * 10 ^ ((decL (n / 10)).length - 1) := by
        rw [← Nat.pow_succ', Nat.succ_eq_add_one, Nat.sub_add_cancel hp]
      refine ⟨by rw [e]; omega, ?_⟩
      rw [Nat.pow_succ]
      omega
theorem dec_mono {a b : Nat} (h : a ≤ b) : (decL a).length ≤ (decL b).length := by
  by_cases h0 : a = 0
  · subst h0
    rw [decL_small (by omega)]
    exact decL_pos b
  · obtain ⟨h1, _⟩ := dec_bounds a (by omega)
    obtain ⟨_, h2⟩ := dec_bounds b (by omega)
    have h3 : 10 ^ ((decL a).length - 1) < 10 ^ (decL b).length := by omega
    have := (Nat.pow_lt_pow_iff_right (by omega : 1 < 10)).1 h3
    have := decL_pos a
    omega
/-- how many bytes a line has, whose rest has m -/
def lineN (m : Nat) : Nat := if (decL (m + (decL m).length)).length = (decL m).length then m + (decL m).length else m + (decL m).length + 1
theorem lineN_ge (m : Nat) : m ≤ lineN m ∧ lineN m ≤ m + (decL m).length + 1 := by
  unfold lineN
  split <;> omega
theorem dec_le (n k : Nat) (hk : 0 < k) (h : n < 10 ^ k) : (decL n).length ≤ k := by
  by_cases h0 : n = 0
  · subst h0
    rw [decL_small (by omega)]
    exact hk
  · obtain ⟨h1, _⟩ := dec_bounds n (by omega)
    have := (Nat.pow_lt_pow_iff_right (by omega : 1 < 10)).1 (Nat.lt_of_le_of_lt h1 h)
    omega
theorem lin_pow (d : Nat) : d + 1 < 10 ^ (d + 1) - 10 ^ d := by
  induction d with
  | zero => decide
  | succ d ih =>
    have e1 : 10 ^ (d + 1 + 1) = 10 * 10 ^ (d + 1) := Nat.pow_succ'
    have e2 : 10 ^ (d + 1) = 10 * 10 ^ d := Nat.pow_succ'
    omega
/-- the line's number is what its digits and the rest come to -/
theorem lineN_eq (m : Nat) (hm : 0 < m) : (decL (lineN m)).length + m = lineN m := by
  unfold lineN
  by_cases h : (decL (m + (decL m).length)).length = (decL m).length
  · rw [if_pos h, h]; omega
  · rw [if_neg h]
    obtain ⟨d, hd⟩ : ∃ d, (decL m).length = d + 1 := ⟨(decL m).length - 1, by have := decL_pos m; omega⟩
    obtain ⟨h1, h2⟩ := dec_bounds m hm
    rw [hd] at h h1 h2 ⊢
    have hge : (decL (m + (d + 1))).length ≥ d + 1 := by
      have := dec_mono (show m ≤ m + (d + 1) by omega)
      omega
    have hl := lin_pow (d + 1)
    have hle : m + (d + 1) + 1 < 10 ^ (d + 1 + 1) := by omega
    have e1 := dec_le (m + (d + 1)) (d + 1 + 1) (by omega) (by omega)
    have e2 := dec_le (m + (d + 1) + 1) (d + 1 + 1) (by omega) hle
    have e3 := dec_mono (show m + (d + 1) ≤ m + (d + 1) + 1 by omega)
    omega
/-- .. and no number from m up to it is -/
theorem lineN_least (m n : Nat) (h1 : m ≤ n) (h2 : n < lineN m) : (decL n).length + m ≠ n := by
  unfold lineN at h2
  have hmo := dec_mono h1
  by_cases h : (decL (m + (decL m).length)).length = (decL m).length
  · rw [if_pos h] at h2
    omega
  · rw [if_neg h] at h2
    by_cases he : n = m + (decL m).length
    · subst he
      intro e
      exact h (by omega)
    · omega
/-! ### whole numbers -/
def isDig (b : UInt8) : Bool := decide (48 ≤ b.toNat ∧ b.toNat ≤ 57)
/-- what digits say -/
def valL (l : List UInt8) : Nat := l.foldl (fun n b => n * 10 + (b.toNat - 48)) 0
theorem valL_snoc (l : List UInt8) (b : UInt8) : valL (l ++ [b]) = valL l * 10 + (b.toNat - 48) := by simp [valL]
theorem valL_lt (l : List UInt8) (h : ∀ b ∈ l, isDig b = true) : valL l < 10 ^ l.length := by
  suffices H : ∀ (l : List UInt8) (n k : Nat), (∀ b ∈ l, isDig b = true) → n < 10 ^ k → l.foldl (fun n b => n * 10 + (b.toNat - 48)) n < 10 ^ (k + l.length) by
    have := H l 0 0 h (by decide)
    rwa [Nat.zero_add] at this
  intro l
  induction l with
  | nil => intro n k _ hn; exact hn
  | cons b l ih =>
    intro n k hl hn
    have hb := hl b (by simp)
    simp only [isDig, decide_eq_true_eq] at hb
    have := ih (n * 10 + (b.toNat - 48)) (k + 1) (fun c hc => hl c (List.mem_cons_of_mem _ hc)) (by rw [Nat.pow_succ]; omega)
    rwa [show k + (b :: l).length = k + 1 + l.length by rw [List.length_cons]; omega]
/-- from 1 to 18 digits -/
def wholeD (l : List UInt8) : Option Nat := if l.length < 1 ∨ 18 < l.length then none else if l.all isDig then some (valL l) else none
/-! ### which records may be, and their lines -/
def mayD (k v : List UInt8) : Bool := !k.contains 61 && !k.isEmpty && textD k && textD v && decide (k.length + v.length ≤ 100000)
def bodyD (k v : List UInt8) : List UInt8 := 32 :: k ++ 61 :: v ++ [10]
theorem bodyD_length (k v : List UInt8) : (bodyD k v).length = k.length + v.length + 3 := by
  simp only [bodyD, List.length_append, List.length_cons, List.length_nil]; omega
def lineD (k v : List UInt8) : List UInt8 := decL (lineN (bodyD k v).length) ++ bodyD k v
theorem lineD_length (k v : List UInt8) : (lineD k v).length = lineN (bodyD k v).length := by
  rw [lineD, List.length_append]
  exact lineN_eq _ (by rw [bodyD_length]; omega)
/-! ### the records of any bytes -/
/-- how many digits stand at the beginning -/
def digN (l : List UInt8) : Nat := (l.takeWhile isDig).length
/-- a record at the beginning: its key, its value, how many bytes it has; or the error (R: ErrRecord, T: ErrText) -/
def recStep (R T : Int) (l : List UInt8) : Except Int (List UInt8 × List UInt8 × Nat) :=
  if digN l < 1 ∨ 7 < digN l ∨ l.getD 0 0 = 48 ∨ digN l = l.length ∨ l.getD (digN l) 0 ≠ 32 then .error R
  else if l.length < valL (l.take (digN l)) ∨ valL (l.take (digN l)) < digN l + 4 ∨ l.getD (valL (l.take (digN l)) - 1) 0 ≠ 10 then .error R
  else
    let line := (l.drop (digN l + 1)).take (valL (l.take (digN l)) - 1 - (digN l + 1))
    if indexByte line 61 < 1 then .error R
    else if textD line = false then .error T
    else .ok (line.take (indexByte line 61).toNat, line.drop ((indexByte line 61).toNat + 1), valL (l.take (digN l)))
def recsGo (R T : Int) : Nat → List UInt8 → List (List UInt8 × List UInt8) → List (List UInt8 × List UInt8) × Int
  | 0, _, acc => (acc, 0)
  | n + 1, l, acc => if l = [] then (acc, 0) else match recStep R T l with
    | .error e => ([], e)
    | .ok (k, v, m) => recsGo R T n (l.drop m) (acc ++ [(k, v)])
/-- P6.1: the records of any bytes, or the error -/
def recsD (R T : Int) (l : List UInt8) : List (List UInt8 × List UInt8) × Int := recsGo R T l.length l []
theorem recStep_pos {R T : Int} {l k v : List UInt8} {m : Nat} (h : recStep R T l = .ok (k, v, m)) : 0 < m ∧ m ≤ l.length := by
  unfold recStep at h
  split at h
  · cases h
  · split at h
    · cases h
    · next h2 =>
      dsimp only at h
      split at h
      · cases h
      · split at h
        · cases h
        · cases h
          omega
theorem recsGo_fuel (R T : Int) (n : Nat) : ∀ m l acc, l.length ≤ n → l.length ≤ m → recsGo R T n l acc = recsGo R T m l acc := by
  induction n with
  | zero =>
    intro m l acc h _
    obtain rfl : l = [] := List.length_eq_zero_iff.1 (by omega)
    cases m <;> simp [recsGo]
  | succ n ih =>
    intro m l acc h1 h2
    cases m with
    | zero =>
      obtain rfl : l = [] := List.length_eq_zero_iff.1 (by omega)
      simp [recsGo]
    | succ m =>
      unfold recsGo
      by_cases hl : l = []
      · rw [if_pos hl, if_pos hl]
      · rw [if_neg hl, if_neg hl]
        cases hs : recStep R T l with
        | error e => rfl
        | ok x =>
          obtain ⟨k, v, j⟩ := x
          have := recStep_pos hs
          have hl' : 0 < l.length := List.length_pos_iff.2 hl
          exact ih m _ _ (by rw [List.length_drop]; omega) (by rw [List.length_drop]; omega)
/-- from here on, with what has come -/
def recsFrom (R T : Int) (l : List UInt8) (acc : List (List UInt8 × List UInt8)) : List (List UInt8 × List UInt8) × Int := recsGo R T l.length l acc
theorem recsFrom_nil (R T : Int) (acc : List (List UInt8 × List UInt8)) : recsFrom R T [] acc = (acc, 0) := rfl
theorem recsFrom_step (R T : Int) (l : List UInt8) (hl : l ≠ []) (acc : List (List UInt8 × List UInt8)) : recsFrom R T l acc = match recStep R T l with
    | .error e => ([], e)
    | .ok (k, v, m) => recsFrom R T (l.drop m) (acc ++ [(k, v)]) := by
  have hl' : 0 < l.length := List.length_pos_iff.2 hl
  unfold recsFrom
  obtain ⟨n, hn⟩ : ∃ n, l.length = n + 1 := ⟨l.length - 1, by omega⟩
  rw [hn, recsGo, if_neg hl]
  cases hs : recStep R T l with
  | error e => rfl
  | ok x =>
    obtain ⟨k, v, j⟩ := x
    have := recStep_pos hs
    exact recsGo_fuel R T _ _ _ _ (by rw [List.length_drop]; omega) (Nat.le_refl _)
end Go.Proofs.YtdjedimjhogdoaaGreatDoor.Rec
end
section
namespace Go.Proofs.YtdjedimjhogdoaaGreatDoor.Rec
open Go.Lib Go.Proofs.YtdjedimjhogdoaaGreatDoor.Path
set_option linter.unusedVariables false

/-! ### right texts with a byte between -/
theorem head_cutC (c : UInt8) (hc : 0 < c.toNat ∧ c.toNat < 128) (x y : List UInt8) (hx : x ≠ []) : headOk (x ++ c :: y) → headOk x := by
  have hl : 0 < x.length := List.length_pos_iff.2 hx
  rintro ⟨h1, h2, h3, h4⟩
  have e0 := at_left x (c :: y) 0 hl
  rw [e0] at h1 h2 h3 h4
  have hs : at_ (x ++ c :: y) x.length = c.toNat := by
    unfold at_
    simp [List.getD]
  have hw : wideC (at_ x 0) ≤ x.length := by
    rcases Nat.lt_or_ge x.length (wideC (at_ x 0)) with h | h
    · have := h3 x.length h hl
      rw [hs] at this
      unfold isCont at this
      omega
    · exact h
  refine ⟨h1, hw, fun k hk hk0 => ?_, ?_⟩
  · have := h3 k hk hk0
    rwa [at_left x _ k (by omega)] at this
  · by_cases hw : 1 < x.length
    · rwa [at_left x _ 1 hw] at h4
    · unfold isBad
      omega
theorem head_one (c : UInt8) (hc : 0 < c.toNat ∧ c.toNat < 128) (y : List UInt8) : headOk (c :: y) ∧ wideC (at_ (c :: y) 0) = 1 := by
  have e : at_ (c :: y) 0 = c.toNat := rfl
  have hw : wideC c.toNat = 1 := by unfold wideC; rw [if_neg (by omega), if_pos (by omega)]
  refine ⟨⟨by rw [e, hw]; omega, by rw [e, hw]; simp, fun k hk hk0 => ?_, ?_⟩, by rw [e, hw]⟩
  · rw [e, hw] at hk; omega
  · rw [e, hw]; unfold isBad; omega
theorem text_sepGo (c : UInt8) (hc : 0 < c.toNat ∧ c.toNat < 128) (n : Nat) : ∀ x y : List UInt8, x.length ≤ n → textD (x ++ c :: y) = (textD x && textD y) := by
  induction n with
  | zero =>
    intro x y h
    obtain rfl : x = [] := List.length_eq_zero_iff.1 (by omega)
    obtain ⟨h1, h2⟩ := head_one c hc y
    rw [List.nil_append, textD_step _ (by simp), if_pos h1, h2]
    rfl
  | succ n ih =>
    intro x y h
    by_cases hx : x = []
    · subst hx
      exact ih [] y (by simp)
    · have hl : 0 < x.length := List.length_pos_iff.2 hx
      rw [textD_step (x ++ c :: y) (by simp), textD_step x hx]
      by_cases hh : headOk x
      · rw [if_pos hh, if_pos (head_app x _ hx hh), at_left x _ 0 hl, List.drop_append_of_le_length hh.2.1]
        have : 0 < wideC (at_ x 0) := Nat.pos_of_ne_zero hh.1
        exact ih _ y (by rw [List.length_drop]; omega)
      · rw [if_neg hh, if_neg (fun h => hh (head_cutC c hc x y hx h))]
        rfl
theorem text_sep (c : UInt8) (hc : 0 < c.toNat ∧ c.toNat < 128) (x y : List UInt8) : textD (x ++ c :: y) = (textD x && textD y) := text_sepGo c hc _ x y (Nat.le_refl _)
/-! ### digits, read again -/
theorem digC_dig (n : Nat) : isDig (digC n) = true := by
  unfold isDig
  rw [digC_nat]
  simp; omega
theorem decL_dig (n : Nat) : ∀ b ∈ decL n, isDig b = true := by
  induction n using Nat.strongRecOn with
  | ind n ih =>
    by_cases h : n < 10
    · rw [decL_small h]
      intro b hb
      rw [List.mem_singleton.1 hb]
      exact digC_dig n
    · rw [decL_great h]
      intro b hb
      rcases List.mem_append.1 hb with h1 | h1
      · exact ih _ (by omega) b h1
      · rw [List.mem_singleton.1 h1]
        exact digC_dig n
theorem valL_dec (n : Nat) : valL (decL n) = n := by
  induction n using Nat.strongRecOn with
  | ind n ih =>
    by_cases h : n < 10
    · rw [decL_small h]
      show 0 * 10 + ((digC n).toNat - 48) = n
      rw [digC_nat]
      omega
    · rw [decL_great h, valL_snoc, ih _ (by omega), digC_nat]
      omega
theorem decL_head (n : Nat) (hn : 0 < n) : (decL n).getD 0 0 ≠ 48 := by
  induction n using Nat.strongRecOn with
  | ind n ih =>
    by_cases h : n < 10
    · rw [decL_small h]
      intro e
      have := congrArg UInt8.toNat e
      simp only [List.getD_cons_zero, digC_nat] at this
      simp at this
      omega
    · rw [decL_great h]
      have := ih (n / 10) (by omega) (by omega)
      have hp := decL_pos (n / 10)
      rw [List.getD, List.getElem?_append_left hp]
      exact this
theorem takeWhile_dig (d x : List UInt8) (hd : ∀ b ∈ d, isDig b = true) (hx : ∀ b r, x = b :: r → isDig b = false) : (d ++ x).takeWhile isDig = d := by
  induction d with
  | nil =>
    cases x with
    | nil => rfl
    | cons b r => rw [List.nil_append, List.takeWhile_cons, hx b r rfl]; rfl
  | cons c d ih =>
    rw [List.cons_append, List.takeWhile_cons, hd c (by simp), if_pos rfl, ih fun b hb => hd b (List.mem_cons_of_mem _ hb)]
theorem index_first (x y : List UInt8) (c : UInt8) (h : x.contains c = false) : indexByte (x ++ c :: y) c = x.length := by
  induction x with
  | nil => simp [indexByte]
  | cons b x ih =>
    rw [List.contains_cons, Bool.or_eq_false_iff] at h
    have hb : (b == c) = false := by
      have := h.1
      rw [beq_eq_false_iff_ne] at this ⊢
      exact fun e => this e.symm
    have hi := ih h.2
    have hn : (indexByte (x ++ c :: y) c == -1) = false := by rw [hi, beq_eq_false_iff_ne]; omega
    have e : indexByte (b :: (x ++ c :: y)) c = indexByte (x ++ c :: y) c + 1 := by simp [indexByte, hb, hn]
    rw [List.cons_append, e, hi, List.length_cons]
    rfl
theorem mayD_spec {k v : List UInt8} (h : mayD k v = true) : k.contains 61 = false ∧ k ≠ [] ∧ textD k = true ∧ textD v = true ∧ k.length + v.length ≤ 100000 := by
  simp only [mayD, Bool.and_eq_true, Bool.not_eq_true', decide_eq_true_eq, List.isEmpty_eq_false_iff] at h
  exact ⟨h.1.1.1.1, h.1.1.1.2, h.1.1.2, h.1.2, h.2⟩
/-- how the line of a record that may be is laid: digits, and what is behind them -/
theorem line_parts {k v : List UInt8} (h : mayD k v = true) : ∃ d, lineD k v = d ++ bodyD k v ∧ (∀ b ∈ d, isDig b = true) ∧ valL d = (lineD k v).length ∧ 1 ≤ d.length ∧ d.length ≤ 7 ∧ d.getD 0 0 ≠ 48 ∧ (lineD k v).length = d.length + k.length + v.length + 3 := by
  obtain ⟨_, _, _, _, hl⟩ := mayD_spec h
  have hb := bodyD_length k v
  have hpos : 0 < (bodyD k v).length := by omega
  refine ⟨decL (lineN (bodyD k v).length), rfl, decL_dig _, by rw [valL_dec, lineD_length], decL_pos _, ?_, decL_head _ (by have := (lineN_ge (bodyD k v).length).1; omega), ?_⟩
  · refine dec_le _ 7 (by omega) ?_
    have h1 := (lineN_ge (bodyD k v).length).2
    have h2 := dec_le (bodyD k v).length 6 (by omega) (by omega)
    omega
  · rw [lineD, List.length_append]; omega
/-- a record's line is read again, whatever stands behind it -/
theorem recStep_line (R T : Int) {k v : List UInt8} (h : mayD k v = true) (rest : List UInt8) : recStep R T (lineD k v ++ rest) = .ok (k, v, (lineD k v).length) := by
  obtain ⟨m1, m2, m3, m4, m5⟩ := mayD_spec h
  obtain ⟨d, hd, hdig, hval, hd1, hd7, hd0, hlen⟩ := line_parts h
  have hk : 0 < k.length := List.length_pos_iff.2 m2
  have hl : lineD k v ++ rest = d ++ (32 :: (k ++ 61 :: v ++ 10 :: rest)) := by rw [hd]; simp [bodyD]
  have hN : digN (lineD k v ++ rest) = d.length := by
    unfold digN
    rw [hl, takeWhile_dig d _ hdig fun b r e => by cases e; decide]
  have hL : (lineD k v ++ rest).length = d.length + (k.length + v.length + 3) + rest.length := by rw [List.length_append, hlen]; omega
  have hT : (lineD k v ++ rest).take d.length = d := by rw [hl]; exact List.take_left
  have hD : (lineD k v ++ rest).drop (d.length + 1) = k ++ 61 :: v ++ 10 :: rest := by
    rw [hl, ← List.drop_drop, List.drop_left]; rfl
  have g0 : (lineD k v ++ rest).getD 0 0 = d.getD 0 0 := by
    rw [hl, List.getD, List.getElem?_append_left (by omega)]; rfl
  have g1 : (lineD k v ++ rest).getD d.length 0 = 32 := by
    rw [hl, List.getD, List.getElem?_append_right (Nat.le_refl _), Nat.sub_self]; rfl
  have hkv : (k ++ 61 :: v).length = k.length + v.length + 1 := by rw [List.length_append, List.length_cons]; omega
  have g2 : (lineD k v ++ rest).getD ((lineD k v).length - 1) 0 = 10 := by
    rw [hl, List.getD, hlen, List.getElem?_append_right (by omega), show d.length + k.length + v.length + 3 - 1 - d.length = (k ++ 61 :: v).length + 1 by rw [hkv]; omega, List.getElem?_cons_succ, List.getElem?_append_right (Nat.le_refl _), Nat.sub_self]
    rfl
  unfold recStep
  rw [hN, hT, hval, if_neg (by rw [hL]; rintro (e | e | e | e | e); omega; omega; exact hd0 (g0 ▸ e); omega; exact e g1), if_neg (by rw [hL]; rintro (e | e | e); omega; omega; exact e g2), hD]
  have hline : (k ++ 61 :: v ++ 10 :: rest).take ((lineD k v).length - 1 - (d.length + 1)) = k ++ 61 :: v := by
    rw [hlen, show d.length + k.length + v.length + 3 - 1 - (d.length + 1) = (k ++ 61 :: v).length by rw [hkv]; omega]
    exact List.take_left
  rw [hline]
  dsimp only
  rw [index_first k v 61 m1, if_neg (by omega), text_sep 61 (by decide) k v, m3, m4, if_neg (by simp), Int.toNat_natCast, List.take_left]
  rw [← List.drop_drop, List.drop_left]
  rfl
/-- a line that is cut is none -/
theorem recStep_cut (R T : Int) {k v : List UInt8} (h : mayD k v = true) (j : Nat) (hj0 : 0 < j) (hj : j < (lineD k v).length) : recStep R T ((lineD k v).take j) = .error R := by
  obtain ⟨d, hd, hdig, hval, hd1, hd7, hd0, hlen⟩ := line_parts h
  have hl : ((lineD k v).take j).length = j := by rw [List.length_take]; omega
  unfold recStep
  by_cases hjd : j ≤ d.length
  · have ht : (lineD k v).take j = d.take j := by rw [hd, List.take_append_of_le_length hjd]
    have hN : digN ((lineD k v).take j) = j := by
      unfold digN
      rw [ht]
      have := takeWhile_dig (d.take j) [] (fun b hb => hdig b (List.mem_of_mem_take hb)) (fun b r e => by cases e)
      rw [List.append_nil] at this
      rw [this, List.length_take]
      omega
    rw [if_pos (.inr (.inr (.inr (.inl (by rw [hN, hl])))))]
  · have ht : (lineD k v).take j = d ++ (bodyD k v).take (j - d.length) := by rw [hd, List.take_append, List.take_of_length_le (by omega)]
    obtain ⟨i, hi⟩ : ∃ i, j - d.length = i + 1 := ⟨j - d.length - 1, by omega⟩
    have hN : digN ((lineD k v).take j) = d.length := by
      unfold digN
      rw [ht, hi, takeWhile_dig d _ hdig fun b r e => by
        unfold bodyD at e
        simp at e
        rw [← e.1]; decide]
    have hT : ((lineD k v).take j).take d.length = d := by rw [ht]; exact List.take_left
    split
    · rfl
    · rw [if_pos (.inl (by rw [hN, hT, hval, hl]; exact hj))]
/-- the lines of records, one behind the other -/
def linesD (l : List (List UInt8 × List UInt8)) : List UInt8 := (l.map fun r => lineD r.1 r.2).flatten
theorem recs_lines (R T : Int) (l : List (List UInt8 × List UInt8)) : ∀ (rest : List UInt8) acc, (∀ r ∈ l, mayD r.1 r.2 = true) → recsFrom R T (linesD l ++ rest) acc = recsFrom R T rest (acc ++ l) := by
  induction l with
  | nil => intro rest acc _; simp [linesD]
  | cons r l ih =>
    intro rest acc h
    have hr := h r (by simp)
    have e : linesD (r :: l) ++ rest = lineD r.1 r.2 ++ (linesD l ++ rest) := by simp [linesD]
    have hne : lineD r.1 r.2 ++ (linesD l ++ rest) ≠ [] := by
      have h2 := (lineN_ge (bodyD r.1 r.2).length).1
      have h3 := bodyD_length r.1 r.2
      intro e
      have := congrArg List.length e
      rw [List.length_append, lineD_length, List.length_nil] at this
      omega
    rw [e, recsFrom_step R T _ hne, recStep_line R T hr]
    simp only
    rw [List.drop_left, ih rest _ fun x hx => h x (List.mem_cons_of_mem _ hx)]
    simp
end Go.Proofs.YtdjedimjhogdoaaGreatDoor.Rec
end
section
namespace Go.Proofs.YtdjedimjhogdoaaGreatDoor.Path
open Go.ChangeShapes Go.WideShapes Go.ChangeAt Go.RowKit Go.Proofs.YtdjedimjhogdoaaGreatDoor.Base Go.Proofs.YtdjedimjhogdoaaGreatDoor.Byt Go.Proofs.YtdjedimjhogdoaaGreatDoor.Txt Go.Lib
set_option linter.unusedVariables false
set_option maxRecDepth 100000

theorem at_drop (s : ByteArray) (k m : Nat) (h : k + m < s.size) : at_ (s.data.toList.drop k) m = (s[k + m]).toNat := by
  unfold at_
  have h' : k + m < s.data.toList.length := by rw [← size_of]; exact h
  simp only [List.getD, List.getElem?_drop]
  rw [List.getElem?_eq_getElem h']
  rfl
theorem text_no (l : List UInt8) (hl : l ≠ []) (h : ¬ headOk l) : textD l = false := by rw [textD_step l hl, if_neg h]
theorem text_yes (l : List UInt8) (hl : l ≠ []) (h : headOk l) : textD l = textD (l.drop (wideC (at_ l 0))) := by rw [textD_step l hl, if_pos h]

set_option maxHeartbeats 4000000 in
theorem rtext_any (s : ByteArray) (w : World) (hm : s.size ≤ 140737488351232) :
    Calls Tryz.prog 23 #[.string s] w fun e w' => e = .returned (.bool (textD s.data.toList)) ∧ w = w' := by
  obtain ⟨ANS, hA⟩ : ∃ ANS, textD s.data.toList = ANS := ⟨_, rfl⟩
  rw [hA]
  have HA := Lib.hid hA
  clear hA
  go_enter Tryz.func23, Tryz.ntmps23
  go_wp2
  go_loop [3] (fun i => ∃ (k : Nat), k ≤ s.size ∧ i = .int .i64 k ∧ Hid (textD (s.data.toList.drop k) = ANS)) (fun i => s.size - (RowKit.intOf i).toNat)
  case atStart => exact ⟨0, Nat.zero_le _, rfl, Lib.hid HA.out⟩
  case round =>
    obtain ⟨k, hk, rfl, hr⟩ := hrel
    by_cases hlt : k < s.size
    · have HL : Hid ((s.data.toList.drop k).length = s.size - k) := Lib.hid (by rw [List.length_drop, ← size_of])
      have HNE : Hid (s.data.toList.drop k ≠ []) := Lib.hid (fun e => by have := HL.out; rw [e] at this; simp at this; omega)
      obtain ⟨C, hC⟩ : ∃ C : Nat, (s[k]).toNat = C := ⟨_, rfl⟩
      have hC2 : ((s[k]).toNat : Int) = (C : Int) := by rw [hC]
      have hC3 : (C : Int) ≤ 255 := by have := (s[k]).toNat_lt; omega
      have H0 : Hid (at_ (s.data.toList.drop k) 0 = C) := Lib.hid (by rw [at_drop s k 0 (by omega)]; exact hC)
      have HNO : Hid (¬ headOk (s.data.toList.drop k) → ANS = false) := Lib.hid (fun h => by rw [← hr.out]; exact text_no _ HNE.out h)
      have HYES : Hid (∀ N, wideC C = N → headOk (s.data.toList.drop k) → textD (s.data.toList.drop (k + N)) = ANS) := Lib.hid (fun N hN h => by
        rw [← hr.out, text_yes _ HNE.out h, H0.out, hN, List.drop_drop])
      clear hC
      by_cases h0 : (C : Int) = 0
      · obtain rfl : ANS = false := HNO.out (fun h => h.1 (by rw [H0.out, show C = 0 by omega]; rfl))
        have hcb : ((C : Int) == 0) = true := by simpa using h0
        clear h0
        go_wp2
        go_ret
        exact ⟨rfl, rfl⟩
      · have hcb : ((C : Int) == 0) = false := by simpa using h0
        by_cases h1 : (C : Int) < 128
        · have HW : Hid (wideC C = 1) := Lib.hid (by unfold wideC; rw [if_neg (by omega), if_pos (by omega)])
          by_cases hN : k + 1 ≤ s.size
          · have hN2 : ¬ ((s.size : Int) - (k : Int) < 1) := by omega
            go_wp2
            go_loop [6] (fun i => ∃ (j : Nat), 1 ≤ j ∧ j ≤ 1 ∧ i = .int .i64 j ∧ Hid (∀ m, 0 < m → m < j → isCont (at_ (s.data.toList.drop k) m))) (fun i => 1 - (RowKit.intOf i).toNat)
            case atStart => exact ⟨1, by omega, by omega, rfl, Lib.hid (fun m h1 h2 => by omega)⟩
            case round =>
              obtain ⟨j, hj1, hj2, rfl, hct⟩ := hrel
              by_cases hj : j < 1
              · omega
              · obtain rfl : j = 1 := by omega
                clear hj hj1 hj2
                have HOK : Hid (headOk (s.data.toList.drop k)) := Lib.hid ⟨by rw [H0.out, HW.out]; omega, by rw [H0.out, HW.out, HL.out]; omega, fun m hm h0 => hct.out m h0 (by rw [H0.out, HW.out] at hm; omega), by rw [H0.out, HW.out]; unfold isBad; omega⟩
                go_wp2
                go_round
                case rel => exact ⟨k + 1, by omega, by go_num, Lib.hid (HYES.out 1 HW.out HOK.out)⟩
                case measure => simp [RowKit.intOf]; omega
          · have hN2 : (s.size : Int) - (k : Int) < 1 := by omega
            obtain rfl : ANS = false := HNO.out (fun h => by have h1 := h.2.1; rw [H0.out, HW.out, HL.out] at h1; omega)
            go_wp2
            go_ret
            exact ⟨rfl, rfl⟩
        · by_cases h2 : (194 : Int) ≤ (C : Int)
          · by_cases h3 : (C : Int) < 224
            · have HW : Hid (wideC C = 2) := Lib.hid (by unfold wideC; rw [if_neg (by omega), if_neg (by omega), if_pos (by omega)])
              by_cases hN : k + 2 ≤ s.size
              · have hN2 : ¬ ((s.size : Int) - (k : Int) < 2) := by omega
                go_wp2
                go_loop [6] (fun i => ∃ (j : Nat), 1 ≤ j ∧ j ≤ 2 ∧ i = .int .i64 j ∧ Hid (∀ m, 0 < m → m < j → isCont (at_ (s.data.toList.drop k) m))) (fun i => 2 - (RowKit.intOf i).toNat)
                case atStart => exact ⟨1, by omega, by omega, rfl, Lib.hid (fun m h1 h2 => by omega)⟩
                case round =>
                  obtain ⟨j, hj1, hj2, rfl, hct⟩ := hrel
                  by_cases hj : j < 2
                  · have hkj : k + j < s.size := by omega
                    obtain ⟨D, hD⟩ : ∃ D : Nat, (s[k + j]).toNat = D := ⟨_, rfl⟩
                    have hD2 : ((s[k + j]).toNat : Int) = (D : Int) := by rw [hD]
                    have HD : Hid (at_ (s.data.toList.drop k) j = D) := Lib.hid (by rw [at_drop s k j hkj]; exact hD)
                    have hD3 : (D : Int) ≤ 255 := by have := (s[k + j]).toNat_lt; omega
                    clear hD
                    by_cases g1 : (D : Int) < 128
                    · obtain rfl : ANS = false := HNO.out (fun h => by have h1 := h.2.2.1 j (by rw [H0.out, HW.out]; exact hj) (by omega); rw [HD.out] at h1; unfold isCont at h1; omega)
                      go_wp2
                      go_ret
                      exact ⟨rfl, rfl⟩
                    · by_cases g2 : (191 : Int) < (D : Int)
                      · obtain rfl : ANS = false := HNO.out (fun h => by have h1 := h.2.2.1 j (by rw [H0.out, HW.out]; exact hj) (by omega); rw [HD.out] at h1; unfold isCont at h1; omega)
                        go_wp2
                        go_ret
                        exact ⟨rfl, rfl⟩
                      · have HCT : Hid (∀ m, 0 < m → m < j + 1 → isCont (at_ (s.data.toList.drop k) m)) := Lib.hid (fun m h1 h2 => by
                          rcases Nat.lt_succ_iff_lt_or_eq.1 h2 with h3 | rfl
                          · exact hct.out m h1 h3
                          · rw [HD.out]; unfold isCont; omega)
                        go_wp2
                        go_round
                        case rel => exact ⟨j + 1, by omega, by omega, by go_num, HCT⟩
                        case measure => simp [RowKit.intOf]; omega
                  · obtain rfl : j = 2 := by omega
                    clear hj hj1 hj2
                    have HOK : Hid (headOk (s.data.toList.drop k)) := Lib.hid ⟨by rw [H0.out, HW.out]; omega, by rw [H0.out, HW.out, HL.out]; omega, fun m hm h0 => hct.out m h0 (by rw [H0.out, HW.out] at hm; omega), by rw [H0.out, HW.out]; unfold isBad; omega⟩
                    go_wp2
                    go_round
                    case rel => exact ⟨k + 2, by omega, by go_num, Lib.hid (HYES.out 2 HW.out HOK.out)⟩
                    case measure => simp [RowKit.intOf]; omega
              · have hN2 : (s.size : Int) - (k : Int) < 2 := by omega
                obtain rfl : ANS = false := HNO.out (fun h => by have h1 := h.2.1; rw [H0.out, HW.out, HL.out] at h1; omega)
                go_wp2
                go_ret
                exact ⟨rfl, rfl⟩
            · have h4 : (224 : Int) ≤ (C : Int) := by omega
              by_cases h5 : (C : Int) < 240
              · have HW : Hid (wideC C = 3) := Lib.hid (by unfold wideC; rw [if_neg (by omega), if_neg (by omega), if_neg (by omega), if_pos (by omega)])
                by_cases hN : k + 3 ≤ s.size
                · have hN2 : ¬ ((s.size : Int) - (k : Int) < 3) := by omega
                  go_wp2
                  go_loop [6] (fun i => ∃ (j : Nat), 1 ≤ j ∧ j ≤ 3 ∧ i = .int .i64 j ∧ Hid (∀ m, 0 < m → m < j → isCont (at_ (s.data.toList.drop k) m))) (fun i => 3 - (RowKit.intOf i).toNat)
                  case atStart => exact ⟨1, by omega, by omega, rfl, Lib.hid (fun m h1 h2 => by omega)⟩
                  case round =>
                    obtain ⟨j, hj1, hj2, rfl, hct⟩ := hrel
                    by_cases hj : j < 3
                    · have hkj : k + j < s.size := by omega
                      obtain ⟨D, hD⟩ : ∃ D : Nat, (s[k + j]).toNat = D := ⟨_, rfl⟩
                      have hD2 : ((s[k + j]).toNat : Int) = (D : Int) := by rw [hD]
                      have HD : Hid (at_ (s.data.toList.drop k) j = D) := Lib.hid (by rw [at_drop s k j hkj]; exact hD)
                      have hD3 : (D : Int) ≤ 255 := by have := (s[k + j]).toNat_lt; omega
                      clear hD
                      by_cases g1 : (D : Int) < 128
                      · obtain rfl : ANS = false := HNO.out (fun h => by have h1 := h.2.2.1 j (by rw [H0.out, HW.out]; exact hj) (by omega); rw [HD.out] at h1; unfold isCont at h1; omega)
                        go_wp2
                        go_ret
                        exact ⟨rfl, rfl⟩
                      · by_cases g2 : (191 : Int) < (D : Int)
                        · obtain rfl : ANS = false := HNO.out (fun h => by have h1 := h.2.2.1 j (by rw [H0.out, HW.out]; exact hj) (by omega); rw [HD.out] at h1; unfold isCont at h1; omega)
                          go_wp2
                          go_ret
                          exact ⟨rfl, rfl⟩
                        · have HCT : Hid (∀ m, 0 < m → m < j + 1 → isCont (at_ (s.data.toList.drop k) m)) := Lib.hid (fun m h1 h2 => by
                            rcases Nat.lt_succ_iff_lt_or_eq.1 h2 with h3 | rfl
                            · exact hct.out m h1 h3
                            · rw [HD.out]; unfold isCont; omega)
                          go_wp2
                          go_round
                          case rel => exact ⟨j + 1, by omega, by omega, by go_num, HCT⟩
                          case measure => simp [RowKit.intOf]; omega
                    · obtain rfl : j = 3 := by omega
                      clear hj hj1 hj2
                      have hk1 : k + 1 < s.size := by omega
                      obtain ⟨D1, hD⟩ : ∃ D : Nat, (s[k + 1]).toNat = D := ⟨_, rfl⟩
                      have hD2 : ((s[k + 1]).toNat : Int) = (D1 : Int) := by rw [hD]
                      have HD1 : Hid (at_ (s.data.toList.drop k) 1 = D1) := Lib.hid (by rw [at_drop s k 1 hk1]; exact hD)
                      have hD3 : (D1 : Int) ≤ 255 := by have := (s[k + 1]).toNat_lt; omega
                      clear hD
                      by_cases c1 : (C : Int) = 224
                      · have hc1 : ((C : Int) == 224) = true := by simpa using c1
                        have hc2 : ((C : Int) == 237) = false := by simp; omega
                        by_cases g1 : (D1 : Int) < 160
                        · obtain rfl : ANS = false := HNO.out (fun h => by have h1 := h.2.2.2; rw [H0.out, HW.out, HD1.out] at h1; unfold isBad at h1; omega)
                          go_wp2
                          go_ret
                          exact ⟨rfl, rfl⟩
                        · have HOK : Hid (headOk (s.data.toList.drop k)) := Lib.hid ⟨by rw [H0.out, HW.out]; omega, by rw [H0.out, HW.out, HL.out]; omega, fun m hm h0 => hct.out m h0 (by rw [H0.out, HW.out] at hm; omega), by rw [H0.out, HW.out, HD1.out]; unfold isBad; omega⟩
                          go_wp2
                          go_round
                          case rel => exact ⟨k + 3, by omega, by go_num, Lib.hid (HYES.out 3 HW.out HOK.out)⟩
                          case measure => simp [RowKit.intOf]; omega
                      · have hc1 : ((C : Int) == 224) = false := by simpa using c1
                        by_cases c2 : (C : Int) = 237
                        · have hc2 : ((C : Int) == 237) = true := by simpa using c2
                          by_cases g1 : (159 : Int) < (D1 : Int)
                          · obtain rfl : ANS = false := HNO.out (fun h => by have h1 := h.2.2.2; rw [H0.out, HW.out, HD1.out] at h1; unfold isBad at h1; omega)
                            go_wp2
                            go_ret
                            exact ⟨rfl, rfl⟩
                          · have HOK : Hid (headOk (s.data.toList.drop k)) := Lib.hid ⟨by rw [H0.out, HW.out]; omega, by rw [H0.out, HW.out, HL.out]; omega, fun m hm h0 => hct.out m h0 (by rw [H0.out, HW.out] at hm; omega), by rw [H0.out, HW.out, HD1.out]; unfold isBad; omega⟩
                            go_wp2
                            go_round
                            case rel => exact ⟨k + 3, by omega, by go_num, Lib.hid (HYES.out 3 HW.out HOK.out)⟩
                            case measure => simp [RowKit.intOf]; omega
                        · have hc2 : ((C : Int) == 237) = false := by simpa using c2
                          have HOK : Hid (headOk (s.data.toList.drop k)) := Lib.hid ⟨by rw [H0.out, HW.out]; omega, by rw [H0.out, HW.out, HL.out]; omega, fun m hm h0 => hct.out m h0 (by rw [H0.out, HW.out] at hm; omega), by rw [H0.out, HW.out, HD1.out]; unfold isBad; omega⟩
                          go_wp2
                          go_round
                          case rel => exact ⟨k + 3, by omega, by go_num, Lib.hid (HYES.out 3 HW.out HOK.out)⟩
                          case measure => simp [RowKit.intOf]; omega
                · have hN2 : (s.size : Int) - (k : Int) < 3 := by omega
                  obtain rfl : ANS = false := HNO.out (fun h => by have h1 := h.2.1; rw [H0.out, HW.out, HL.out] at h1; omega)
                  go_wp2
                  go_ret
                  exact ⟨rfl, rfl⟩
              · have h6 : (240 : Int) ≤ (C : Int) := by omega
                by_cases h7 : (C : Int) < 245
                · have HW : Hid (wideC C = 4) := Lib.hid (by unfold wideC; rw [if_neg (by omega), if_neg (by omega), if_neg (by omega), if_neg (by omega), if_pos (by omega)])
                  by_cases hN : k + 4 ≤ s.size
                  · have hN2 : ¬ ((s.size : Int) - (k : Int) < 4) := by omega
                    go_wp2
                    go_loop [6] (fun i => ∃ (j : Nat), 1 ≤ j ∧ j ≤ 4 ∧ i = .int .i64 j ∧ Hid (∀ m, 0 < m → m < j → isCont (at_ (s.data.toList.drop k) m))) (fun i => 4 - (RowKit.intOf i).toNat)
                    case atStart => exact ⟨1, by omega, by omega, rfl, Lib.hid (fun m h1 h2 => by omega)⟩
                    case round =>
                      obtain ⟨j, hj1, hj2, rfl, hct⟩ := hrel
                      by_cases hj : j < 4
                      · have hkj : k + j < s.size := by omega
                        obtain ⟨D, hD⟩ : ∃ D : Nat, (s[k + j]).toNat = D := ⟨_, rfl⟩
                        have hD2 : ((s[k + j]).toNat : Int) = (D : Int) := by rw [hD]
                        have HD : Hid (at_ (s.data.toList.drop k) j = D) := Lib.hid (by rw [at_drop s k j hkj]; exact hD)
                        have hD3 : (D : Int) ≤ 255 := by have := (s[k + j]).toNat_lt; omega
                        clear hD
                        by_cases g1 : (D : Int) < 128
                        · obtain rfl : ANS = false := HNO.out (fun h => by have h1 := h.2.2.1 j (by rw [H0.out, HW.out]; exact hj) (by omega); rw [HD.out] at h1; unfold isCont at h1; omega)
                          go_wp2
                          go_ret
                          exact ⟨rfl, rfl⟩
                        · by_cases g2 : (191 : Int) < (D : Int)
                          · obtain rfl : ANS = false := HNO.out (fun h => by have h1 := h.2.2.1 j (by rw [H0.out, HW.out]; exact hj) (by omega); rw [HD.out] at h1; unfold isCont at h1; omega)
                            go_wp2
                            go_ret
                            exact ⟨rfl, rfl⟩
                          · have HCT : Hid (∀ m, 0 < m → m < j + 1 → isCont (at_ (s.data.toList.drop k) m)) := Lib.hid (fun m h1 h2 => by
                              rcases Nat.lt_succ_iff_lt_or_eq.1 h2 with h3 | rfl
                              · exact hct.out m h1 h3
                              · rw [HD.out]; unfold isCont; omega)
                            go_wp2
                            go_round
                            case rel => exact ⟨j + 1, by omega, by omega, by go_num, HCT⟩
                            case measure => simp [RowKit.intOf]; omega
                      · obtain rfl : j = 4 := by omega
                        clear hj hj1 hj2
                        have hk1 : k + 1 < s.size := by omega
                        obtain ⟨D1, hD⟩ : ∃ D : Nat, (s[k + 1]).toNat = D := ⟨_, rfl⟩
                        have hD2 : ((s[k + 1]).toNat : Int) = (D1 : Int) := by rw [hD]
                        have HD1 : Hid (at_ (s.data.toList.drop k) 1 = D1) := Lib.hid (by rw [at_drop s k 1 hk1]; exact hD)
                        have hD3 : (D1 : Int) ≤ 255 := by have := (s[k + 1]).toNat_lt; omega
                        clear hD
                        by_cases c1 : (C : Int) = 240
                        · have hc1 : ((C : Int) == 240) = true := by simpa using c1
                          have hc2 : ((C : Int) == 244) = false := by simp; omega
                          by_cases g1 : (D1 : Int) < 144
                          · obtain rfl : ANS = false := HNO.out (fun h => by have h1 := h.2.2.2; rw [H0.out, HW.out, HD1.out] at h1; unfold isBad at h1; omega)
                            go_wp2
                            go_ret
                            exact ⟨rfl, rfl⟩
                          · have HOK : Hid (headOk (s.data.toList.drop k)) := Lib.hid ⟨by rw [H0.out, HW.out]; omega, by rw [H0.out, HW.out, HL.out]; omega, fun m hm h0 => hct.out m h0 (by rw [H0.out, HW.out] at hm; omega), by rw [H0.out, HW.out, HD1.out]; unfold isBad; omega⟩
                            go_wp2
                            go_round
                            case rel => exact ⟨k + 4, by omega, by go_num, Lib.hid (HYES.out 4 HW.out HOK.out)⟩
                            case measure => simp [RowKit.intOf]; omega
                        · have hc1 : ((C : Int) == 240) = false := by simpa using c1
                          by_cases c2 : (C : Int) = 244
                          · have hc2 : ((C : Int) == 244) = true := by simpa using c2
                            by_cases g1 : (143 : Int) < (D1 : Int)
                            · obtain rfl : ANS = false := HNO.out (fun h => by have h1 := h.2.2.2; rw [H0.out, HW.out, HD1.out] at h1; unfold isBad at h1; omega)
                              go_wp2
                              go_ret
                              exact ⟨rfl, rfl⟩
                            · have HOK : Hid (headOk (s.data.toList.drop k)) := Lib.hid ⟨by rw [H0.out, HW.out]; omega, by rw [H0.out, HW.out, HL.out]; omega, fun m hm h0 => hct.out m h0 (by rw [H0.out, HW.out] at hm; omega), by rw [H0.out, HW.out, HD1.out]; unfold isBad; omega⟩
                              go_wp2
                              go_round
                              case rel => exact ⟨k + 4, by omega, by go_num, Lib.hid (HYES.out 4 HW.out HOK.out)⟩
                              case measure => simp [RowKit.intOf]; omega
                          · have hc2 : ((C : Int) == 244) = false := by simpa using c2
                            have HOK : Hid (headOk (s.data.toList.drop k)) := Lib.hid ⟨by rw [H0.out, HW.out]; omega, by rw [H0.out, HW.out, HL.out]; omega, fun m hm h0 => hct.out m h0 (by rw [H0.out, HW.out] at hm; omega), by rw [H0.out, HW.out, HD1.out]; unfold isBad; omega⟩
                            go_wp2
                            go_round
                            case rel => exact ⟨k + 4, by omega, by go_num, Lib.hid (HYES.out 4 HW.out HOK.out)⟩
                            case measure => simp [RowKit.intOf]; omega
                  · have hN2 : (s.size : Int) - (k : Int) < 4 := by omega
                    obtain rfl : ANS = false := HNO.out (fun h => by have h1 := h.2.1; rw [H0.out, HW.out, HL.out] at h1; omega)
                    go_wp2
                    go_ret
                    exact ⟨rfl, rfl⟩
                · have HW : Hid (wideC C = 0) := Lib.hid (by unfold wideC; rw [if_neg (by omega), if_neg (by omega), if_neg (by omega), if_neg (by omega), if_neg (by omega)])
                  obtain rfl : ANS = false := HNO.out (fun h => h.1 (by rw [H0.out, HW.out]))
                  go_wp2
                  go_ret
                  exact ⟨rfl, rfl⟩
          · have h4 : ¬ (224 : Int) ≤ (C : Int) := by omega
            have h6 : ¬ (240 : Int) ≤ (C : Int) := by omega
            have HW : Hid (wideC C = 0) := Lib.hid (by unfold wideC; rw [if_neg (by omega), if_neg (by omega), if_neg (by omega), if_neg (by omega), if_neg (by omega)])
            obtain rfl : ANS = false := HNO.out (fun h => h.1 (by rw [H0.out, HW.out]))
            go_wp2
            go_ret
            exact ⟨rfl, rfl⟩
    · obtain rfl : k = s.size := by omega
      have hl : ¬ ((s.size : Int) < (s.size : Int)) := by omega
      obtain rfl : true = ANS := by rw [← hr.out, List.drop_eq_nil_of_le (by rw [← size_of]; exact Nat.le_refl _)]; rfl
      go_wp2
      go_ret
      exact ⟨rfl, rfl⟩
end Go.Proofs.YtdjedimjhogdoaaGreatDoor.Path
end
