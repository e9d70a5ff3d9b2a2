/- Layer block's sources: reader.read. -/
import Derived.Test.YtindibabpfdljaaDoorSourceChunk
namespace Go.Proofs.YtindibabpfdljaaDoor.Block
open Go.ChangeShapes Go.WideShapes Go.ChangeAt Go.RowKit Go.Proofs.YtindibabpfdljaaDoor.Base Go.Proofs.YtindibabpfdljaaDoor.Byt Go.Lib
set_option linter.unusedVariables false

/-- a slice's length: for a measure -/
def lenV : Value → Nat | .slice _ n _ => n | _ => 0
/-- the value v holds the bytes bs in a row of its own, from block B on -/
def OwnB (w : World) (B : Nat) (v : Value) (n : Nat) (bs : List UInt8) : Prop := w.ownsRow B 5 1 v n ((nums bs).map (Value.int .u8))
theorem OwnB.kept {T : Nat → Prop} {w w' : World} {B : Nat} {v : Value} {n : Nat} {bs : List UInt8} (h : OwnB w B v n bs) (hk : Kept T w w') (hn : ∀ k, v.ownBlock = some k → ¬ T k) : OwnB w' B v n bs := ownsRow_kept h hk hn
theorem OwnB.slice {w : World} {B : Nat} {v : Value} {n : Nat} {bs : List UInt8} (h : OwnB w B v n bs) : ∃ p c, v = .slice p n c ∧ n ≤ c ∧ c ≤ maxLen ∧ BAt w p n bs ∧ bs.length = n ∧ ∀ x, p = some x → B ≤ x.block ∧ x.block < w.heap.size ∧ v.ownBlock = some x.block := by
  obtain ⟨p, c, hv, h1, h2, h3, h4⟩ := bat_of_own h (nums_bd bs)
  rw [bytesOf_nums] at h3 h4
  exact ⟨p, c, hv, h1, h2, h3, h4, own_block h hv⟩
theorem OwnB.lt {w : World} {B : Nat} {v : Value} {n : Nat} {bs : List UInt8} (h : OwnB w B v n bs) : ∀ k, v.ownBlock = some k → B ≤ k ∧ k < w.heap.size := World.ownsRow.lt h
theorem OwnB.mono {w : World} {B B' : Nat} {v : Value} {n : Nat} {bs : List UInt8} (h : OwnB w B v n bs) (hb : B' ≤ B) : OwnB w B' v n bs :=
  ⟨h.1, h.2.imp id fun ⟨g, cap, cur, h1, h2, h3⟩ => ⟨g, cap, cur, h1, Nat.le_trans hb h2, h3⟩⟩

/-- what a source leads to was there before: it is kept by what is written to rows made since -/
theorem Src.since {w0 w w' : World} {g a0 t0 a t : Nat} {S : Sv} (h0 : Src w0 g S a0 t0) (h : Src w g S a t) {T : Nat → Prop} (hk : Kept T w w') (hT : ∀ k, T k → w0.heap.size ≤ k) : Src w' g S a t :=
  h.kept hk (fun hh => by have := hT g hh; have := h0.lt; omega)
    (fun hn x hx hh => by
      obtain ⟨b, o, hp, hb, _⟩ := h0.bat.cell hn
      rw [hp] at hx; cases hx
      have := hT b hh
      omega)
    (fun hn x hx hh => by
      obtain ⟨b, o, hp, hb, _⟩ := h0.iat hn
      rw [hp] at hx; cases hx
      have := hT b hh
      omega)

def ReadPost (w : World) (g a : Nat) (S : Sv) (N : Nat) (e : Ending) (w' : World) : Prop :=
  (a + N ≤ S.n ∧ ∃ v, e = .returned (.tuple #[v, .int .i64 0]) ∧ OwnB w' w.heap.size v N ((S.bs.drop a).take N) ∧ (∃ t', Src w' g S (a + N) t') ∧ Kept (oneB g) w w') ∨
  (S.n < a + N ∧ e = .returned (.tuple #[.slice none 0 0, .int .i64 2]) ∧ (∃ t', Src w' g S S.n t') ∧ Kept (oneB g) w w')

/-- the loop's relation: j bytes were read -/
structure RInv (w : World) (g a : Nat) (S : Sv) (L N j : Nat) (v : Value) (wr : World) : Prop where
  own : OwnB wr w.heap.size v j ((S.bs.drop a).take j)
  src : ∃ t', Src wr g S (a + j) t'
  kept : Kept (oneB g) w wr
  jn : j ≤ N
  jl : j ≤ L
set_option maxHeartbeats 1600000 in
theorem read_any (w : World) (g a t : Nat) (S : Sv) (h : Src w g S a t) (ho : S.off g) (N : Nat) (hN : N ≤ 9223372036854775807) :
    Calls Tryd.prog 22 #[.pointer (some ⟨g, 0, none⟩), .int .i64 (N : Int)] w (ReadPost w g a S N) := by
  obtain ⟨i0, hi, hz0, hz1, hz2⟩ := info_parts infoU8
  obtain ⟨L, hL⟩ : ∃ L, L = S.n - a := ⟨_, rfl⟩
  obtain ⟨C, hC1, hC2⟩ : ∃ C : Nat, (if (L : Int) < (N : Int) then (L : Int) else (N : Int)) = (C : Int) ∧ C ≤ L := by
    by_cases h : (L : Int) < (N : Int)
    · exact ⟨L, if_pos h, Nat.le_refl _⟩
    · exact ⟨N, if_neg h, by omega⟩
  have hC3 : (if L < N then (L : Int) else (N : Int)) = (C : Int) := by
    rw [← hC1]
    by_cases h : L < N
    · rw [if_pos h, if_pos (by omega)]
    · rw [if_neg h, if_neg (by omega)]
  have HI := Lib.hid hi
  have HZ0 := Lib.hid hz0
  have HZ1 := Lib.hid hz1
  have HZ2 := Lib.hid hz2
  have HL := Lib.hid hL
  have HCL := Lib.hid hC2
  have H := Lib.hid h
  have HO := Lib.hid ho
  clear hi hz0 hz1 hz2 hL hC2 h ho
  go_enter Tryd.func22, Tryd.ntmps22
  go_wp2_with fail
  refine (left_any _ g a t S H.out).mono ?_
  rintro e w1 ⟨rfl, hs1, hk1⟩
  obtain ⟨p, hp, hb1, hoff⟩ := left_bat hs1
  rw [hp, ← HL.out]
  have HS1 := Lib.hid hs1
  have HK1 := Lib.hid hk1
  clear hs1 hk1 hb1 hp hoff
  go_wp2_with (at_make; refine wpList_make_own _ rfl _ _ 22 rfl w1.heap.size 5 i0 (.int .u8 0) 1 Tryd.underlying22 HI.out HZ0.out HZ1.out .i64 .i64 (C : Int) C rfl rfl rfl ?b1 ?b2 (Nat.le_refl _) ?_)
  case b1 => rw [HZ2.out]; have := HS1.out.big; have := HL.out; have := HCL.out; omega
  case b2 => unfold maxLen; have := HS1.out.big; have := HL.out; have := HCL.out; omega
  intro w2 hown hgrow
  have hk2 : Kept (oneB g) w w2 := (HK1.out.of_none _).grown hgrow (by intro k hk; cases hk)
  have HR : RInv w g a S L N 0 (.slice (some ⟨w1.heap.size, 0, none⟩) 0 C) w2 := ⟨OwnB.mono (bs := []) hown HK1.out.size, ⟨t, by
    have := H.out.since HS1.out (T := noneB) ((Kept.refl noneB w1).grown hgrow (by intro k hk; cases hk)) (fun _ h => h.elim)
    simpa using this⟩, hk2, Nat.zero_le _, Nat.zero_le _⟩
  have HRH := Lib.hid HR
  clear hown hgrow hk2 HR hC1 hC3
  go_wp2
  go_loopw [6] (fun v wr => ∃ (j : Nat) (p : Option Addr) (c : Nat), j ≤ N ∧ v = .slice p j c ∧ Hid (RInv w g a S L N j v wr)) (fun v _ => N - lenV v)
  case atStart => exact ⟨0, _, C, Nat.zero_le _, rfl, HRH⟩
  case round =>
    obtain ⟨j, p, c, hjN, rfl, HRI⟩ := hrel
    obtain ⟨t3, hs3⟩ := HRI.out.src
    have HS3 := Lib.hid hs3
    clear hs3
    by_cases hlt : j < N
    · go_wp2_with fail
      refine (piece_any _ g (a + j) t3 S HS3.out HO.out ((N : Int) - (j : Int)) (by omega)).mono ?_
      rintro e w4 ⟨p', k, c', t4, rfl, hk1, hk2, hk3, hk4, hb, hs4, hkk⟩
      have hkn : j + k ≤ N := by omega
      have HB := Lib.hid hb
      have HS4 := Lib.hid hs4
      have HKK := Lib.hid hkk
      have HK1' := Lib.hid hk1
      have HK3' := Lib.hid hk3
      clear hb hs4 hkk hk1 hk3
      by_cases hk0 : k = 0
      · subst hk0
        have E : Hid (a + j = S.n) := Lib.hid (by have := HK1'.out; have := HK3'.out; omega)
        go_wp2
        go_ret2
        exact Or.inr ⟨by have := E.out; omega, rfl, ⟨t4, by have := HS4.out; rw [← E.out]; simpa using this⟩, HRI.out.kept.trans HKK.out⟩
      · have hko : ((k : Int) == 0) = false := by simpa using hk0
        have own4 : OwnB w4 w.heap.size (.slice p j c) j ((S.bs.drop a).take j) := HRI.out.own.kept HKK.out (fun x hx hg => by
          have := HRI.out.own.lt x hx
          have := H.out.lt
          have : x = g := hg
          omega)
        have OWN4 := Lib.hid own4
        clear own4
        go_wp2_with (at_builtin; refine append_bytes rfl _ _ 22 rfl w.heap.size 5 i0 Tryd.underlying22 HI.out HZ0.out HZ1.out HZ2.out _ j _ rfl OWN4.out p' k c' _ rfl HB.out ?d1 ?d2 ?d3 ?_)
        case d1 => have := HK1'.out; rw [List.length_take, List.length_drop, H.out.len]; omega
        case d2 => have := HK1'.out; have := H.out.big; omega
        case d3 => exact (HRI.out.kept.trans HKK.out).size
        intro v' w5 hown5 hgrow5
        have R5 : Hid (RInv w g a S L N (j + k) v' w5) := Lib.hid (by
          refine ⟨?_, ⟨t4, ?_⟩, ?_, hkn, ?_⟩
          · unfold OwnB
            have e : (S.bs.drop a).take (j + k) = (S.bs.drop a).take j ++ ((S.bs.drop (a + j)).take k) := by
              rw [List.take_add, List.drop_drop]
            rw [e]
            unfold nums at hown5 ⊢
            rw [List.map_append, List.map_append]
            exact hown5
          · have := H.out.since HS4.out (T := fun x => some x = (Value.slice p j c).ownBlock) ((Kept.refl _ w4).grown hgrow5 (fun x hx => Or.inr hx.symm)) (fun x hx => (OWN4.out.lt x hx.symm).1)
            rw [← Nat.add_assoc]
            exact this
          · exact (HRI.out.kept.trans HKK.out).grown hgrow5 (fun x hx => Or.inl (OWN4.out.lt x hx).1)
          · have := HK1'.out; have := HL.out; have := H.out.le; omega)
        obtain ⟨p5, c5, hv5, hrest⟩ := (show OwnB w5 w.heap.size v' (j + k) _ from R5.out.own).slice
        clear hrest hown5 hgrow5
        subst hv5
        go_wp2
        go_roundw
        case rel => exact ⟨j + k, _, c5, hkn, rfl, R5⟩
        case measure => simp [lenV]; omega
    · obtain rfl : j = N := by omega
      go_wp2
      go_ret2
      exact Or.inl ⟨by have := HRI.out.jl; have := HL.out; have := H.out.le; omega, _, rfl, HRI.out.own, ⟨t3, HS3.out⟩, HRI.out.kept⟩
end Go.Proofs.YtindibabpfdljaaDoor.Block
