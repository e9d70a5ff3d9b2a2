/- Layer block's sources: Rest, by the shelf's bytes.TrimLeft. -/
import Derived.Test.YtindibabpfdljaaDoorSourceNew
import Derived.Test.YtindibabpfdljaaDoorBlkTrim
namespace Go.Proofs.YtindibabpfdljaaDoor.Block
open Go.ChangeShapes Go.WideShapes Go.ChangeAt Go.RowKit Go.Proofs.YtindibabpfdljaaDoor.Base Go.Proofs.YtindibabpfdljaaDoor.Byt Go.Proofs.YtindibabpfdljaaDoor.Num Go.Lib Go.Proofs Go.Shelf
set_option linter.unusedVariables false

theorem info256b : (Tryd.prog.info? (Tryd.laysTrimLeft_ren.t 27)).map (fun i => (i.zero, i.size)) = some (some (.agg (Array.replicate 256 (.bool false))), 256) := by kernel_rfl
theorem trimLeft0_any (p : Option Addr) (n c : Nat) (bs : List UInt8) (w : World) (hl : bs.length = n) (hc : n ≤ c) (hm : c ≤ maxLen) (h : BAt w p n bs) :
    Calls Tryd.prog 24 #[.slice p n c, .string ⟨#[0]⟩] w fun e w' => e = .returned (Lib.leftV p n c (n - (Lib.trimLeftS bs [0]).length)) ∧ Below w.heap.size w w' :=
  Any.bytes_TrimLeft_ascii Tryd.laysTrimLeft (zero_of_info info256b).1 (zero_of_info info256b).2 p n c bs ⟨#[0]⟩ w hl hc (by unfold maxLen at hm; omega) h (by decide) (fun j b hb => by
    match j, hb with
    | 0, hb => cases hb; decide)
/-- are all bytes 0? -/
def restB (bs : List UInt8) : Bool := bs.all (· == 0)
theorem rest_len : ∀ bs : List UInt8, decide ((Lib.trimLeftS bs [0]).length = 0) = restB bs
  | [] => rfl
  | x :: l => by
    unfold Lib.trimLeftS restB
    by_cases h : x = 0
    · subst h
      have := rest_len l
      unfold Lib.trimLeftS restB at this
      simpa using this
    · have hx : ([0] : List UInt8).contains x = false := by simpa using h
      rw [List.dropWhile_cons_of_neg (by rw [hx]; decide)]
      simp [h]
theorem trimLeft0_le (l : List UInt8) : (Lib.trimLeftS l [0]).length ≤ l.length := (List.dropWhile_suffix _ : Lib.trimLeftS l [0] <:+ l).length_le
theorem leftV_len (p : Option Addr) (n c k : Nat) (hk : k ≤ n) : ∃ p' c', Lib.leftV p n c (n - k) = .slice p' k c' := by
  unfold Lib.leftV Lib.fromV
  by_cases h0 : k = 0
  · subst h0
    exact ⟨none, 0, by rw [if_pos (by omega)]⟩
  · by_cases h1 : n - k = n
    · omega
    · rw [if_neg h1, show n - (n - k) = k by omega]
      exact ⟨_, _, rfl⟩
theorem rest_nil (w : World) : Calls Tryd.prog 15 #[.pointer none] w fun e w' => e = .returned (.bool false) ∧ w = w' := by
  go_enter Tryd.func15, Tryd.ntmps15
  go_wp2
  go_ret
  exact ⟨rfl, rfl⟩
theorem rest_any (w : World) (g a t : Nat) (S : Sv) (h : Src w g S a t) :
    Calls Tryd.prog 15 #[.pointer (some ⟨g, 0, none⟩)] w fun e w' => e = .returned (.bool (restB (S.bs.drop a))) ∧ Src w' g S a t ∧ Kept noneB w w' := by
  have H := Lib.hid h
  clear h
  go_enter Tryd.func15, Tryd.ntmps15
  go_wp2_with fail
  refine (left_any _ g a t S H.out).mono ?_
  rintro e w1 ⟨rfl, hs1, hk1⟩
  obtain ⟨p, hp, hb1, _⟩ := left_bat hs1
  rw [hp]
  have hlen : (S.bs.drop a).length = S.n - a := by rw [List.length_drop, H.out.len]
  have HS1 := Lib.hid hs1
  have HK1 := Lib.hid hk1
  have HB1 := Lib.hid hb1
  have HLEN := Lib.hid hlen
  clear hs1 hk1 hb1 hp hlen
  go_wp2_with fail
  refine (trimLeft0_any p _ _ (S.bs.drop a) w1 HLEN.out (by have := HS1.out.nc; omega) (by have := HS1.out.cm; omega) HB1.out).mono ?_
  rintro e w2 ⟨rfl, hb2⟩
  obtain ⟨k, hk⟩ : ∃ k, k = (Lib.trimLeftS (S.bs.drop a) [0]).length := ⟨_, rfl⟩
  have hkl : k ≤ S.n - a := by rw [hk, ← HLEN.out]; exact trimLeft0_le _
  rw [← hk]
  obtain ⟨p', c', hv⟩ := leftV_len p (S.n - a) (S.c - a) k hkl
  rw [hv]
  have HKK := Lib.hid hk
  have HK2 := Lib.hid (Kept.of_below hb2 noneB)
  clear hv hk hkl hb2
  have F : ∀ b, b = decide (k = 0) → (Ending.returned (.bool b) = .returned (.bool (restB (S.bs.drop a)))) := fun b hb => by rw [hb, HKK.out, rest_len]
  have FH := Lib.hid F
  clear F
  by_cases h0 : k = 0
  · subst h0
    go_wp2
    go_ret
    exact ⟨FH.out true rfl, HS1.out.kept0 HK2.out, HK1.out.trans HK2.out⟩
  · have hz : ((k : Int) == 0) = false := by simpa using h0
    go_wp2
    go_ret
    exact ⟨FH.out false (by simp [h0]), HS1.out.kept0 HK2.out, HK1.out.trans HK2.out⟩
end Go.Proofs.YtindibabpfdljaaDoor.Block
