/- The layer-3 laws' own 'answers'. -/
import Derived.Test.YtindibabpfdljaaDoorSink
import Derived.Test.YtindibabpfdljaaDoorSourceRest
import Derived.Lib.SlBytesConst
namespace Go.Proofs.YtindibabpfdljaaDoor.Block
open Go.ChangeShapes Go.WideShapes Go.ChangeAt Go.RowKit Go.Proofs.YtindibabpfdljaaDoor.Base Go.Proofs.YtindibabpfdljaaDoor.Byt Go.Proofs.YtindibabpfdljaaDoor.Num Go.Lib
set_option linter.unusedVariables false

/-- a new sink -/
theorem snk_new (w : World) (B : Nat) : Snk (w.alloc (.cells #[.slice none 0 0] 43)) w.heap.size B (.slice none 0 0) [] :=
  ⟨heap_alloc_new w _, World.ownsRow_nil _ _ _ _⟩
theorem seven_iat (w : World) (t : TypeId) : IAt (w.alloc (.cells #[.int .i64 7] t)) (some ⟨w.heap.size, 0, none⟩) 1 [7] := fun _ =>
  ⟨w.heap.size, 0, rfl, by simp, fun i hi => by
    rw [Nat.zero_add, World.cell?_alloc_new]
    match i, hi with
    | 0, _ => simp⟩
/-- []byte("abc"): the row is laid, and marked behind its end -/
theorem abc_bat (w : World) (t : TypeId) (fr : Nat × Nat) : BAt (w.alloc (.cells #[.int .u8 97, .int .u8 98, .int .u8 99] t fr)) (some ⟨w.heap.size, 0, none⟩) 3 [97, 98, 99] := fun _ =>
  ⟨w.heap.size, 0, rfl, fun i hi => by
    rw [Nat.zero_add, World.cell?_alloc_mark]
    match i, hi with
    | 0, _ => simp
    | 1, _ => simp
    | 2, _ => simp⟩
/-- the example's bytes -/
def exampleB : List UInt8 := ([97, 98, 99] ++ zerosTo 3) ++ List.replicate 1024 0
theorem example_is : ∃ (D D1 : List UInt8), D1 = [97, 98, 99] ++ zerosTo 3 ∧ D = D1 ++ List.replicate 1024 0 ∧ D1.length = 512 ∧ D.length = 1536 ∧ (D.drop 0).take 3 = [97, 98, 99] ∧ restB (D.drop 1024) = true :=
  ⟨exampleB, [97, 98, 99] ++ zerosTo 3, rfl, rfl, by decide +kernel, by decide +kernel, by decide +kernel, by decide +kernel⟩
theorem padN_3 : padN 3 = 512 := by decide
set_option maxHeartbeats 1600000 in
theorem ans03_any (w : World) :
    Calls Tryd.prog 8 #[] w fun e w' => e = .returned (.bool true) ∧ Kept noneB w w' := by
  have HS0 := Lib.hid (snk_new w w.heap.size)
  have HK0 := Lib.hid ((Kept.refl noneB w).alloc (.cells #[.slice none 0 0] 43))
  have C5 := Lib.run_convert_bytes_const (P := Tryd.prog) (w.alloc (.cells #[.slice none 0 0] 43)) 22 5 #[.int .u8 97, .int .u8 98, .int .u8 99] 3 3 Tryd.underlying22 Tryd.underlying5
  rw [World.size_alloc] at C5
  have hb5 := abc_bat (w.alloc (.cells #[.slice none 0 0] 43)) 5 (3, 4)
  rw [World.size_alloc] at hb5
  have HB5 := Lib.hid hb5
  clear hb5
  obtain ⟨D, D1, hD1, hD, hl1, hl, h3, hr⟩ := example_is
  obtain ⟨N, hN⟩ : ∃ N, N = D.length := ⟨_, rfl⟩
  have HD1 := Lib.hid hD1
  have HD := Lib.hid hD
  have HL1 := Lib.hid hl1
  have HL := Lib.hid hl
  have H3 := Lib.hid h3
  have HR := Lib.hid hr
  have HN := Lib.hid hN
  clear hN hD1 hD hl1 hl h3 hr
  go_enter Tryd.func8, Tryd.ntmps8
  go_wp2_with fail
  refine (sbody_any _ w.heap.size w.heap.size (.slice none 0 0) [] ?a1 ?a2 _ 3 3 [97, 98, 99] HB5.out rfl ?a3 ?a4).mono ?_
  case a1 => exact HS0.out.kept ((Kept.refl noneB _).alloc _) id (fun _ _ => id)
  case a2 => simp only [World.size_alloc]; omega
  case a3 => intro _ x _ e; cases e
  case a4 => rw [padN_3, List.length_nil]; omega
  rintro e w1 ⟨v1, rfl, hs1, hk1, hn1⟩
  rw [List.nil_append, ← HD1.out] at hs1
  have HS1 := Lib.hid hs1
  have HK1 := Lib.hid ((HK0.out.alloc _).then hk1 (fun i hi => by
    rcases hi with hi | hi
    · exact Or.inl (by rw [hi]; exact Nat.le_refl _)
    · cases hi))
  clear hs1 hk1 hn1 C5
  go_wp2_with fail
  refine (end_any w1 w.heap.size w.heap.size v1 D1 HS1.out HK1.out.size (by rw [HL1.out]; omega)).mono ?_
  rintro e w2 ⟨v2, rfl, hs2, hk2, hn2⟩
  rw [← HD.out] at hs2
  have HS2 := Lib.hid hs2
  have HK2 := Lib.hid (HK1.out.then hk2 (fun i hi => by
    rcases hi with hi | hi
    · exact Or.inl (by rw [hi]; exact Nat.le_refl _)
    · exact Or.inl (HS1.out.own.lt i hi).1))
  clear hs2 hk2 hn2
  go_wp2_with fail
  refine (out_any w2 w.heap.size w.heap.size v2 D HS2.out (by rw [HL.out]; omega)).mono ?_
  rintro e w3 ⟨v3, rfl, ho3, hk3⟩
  have HK3 := Lib.hid hk3
  rw [← HN.out] at ho3
  obtain ⟨p3, c3, rfl, _, _, hb3, _, _⟩ := ho3.slice
  have HB3 := Lib.hid hb3
  have HI3 := Lib.hid (seven_iat w3 3)
  have HA3 := Lib.hid ((Kept.refl noneB w3).alloc (.cells #[.int .i64 7] 3))
  clear ho3 hk3 hb3
  go_wp2_with fail
  refine (new_any _ p3 N c3 D _ 1 1 [7] (HB3.out.alloc _) HN.out.symm (by rw [HN.out, HL.out]; omega) HI3.out rfl (by omega)).mono ?_
  rintro e w4 ⟨g, S, rfl, hg, hSb, hSn, hSz, hoff, hnp, hnq, hs4, hk4⟩
  have HG := Lib.hid hg
  have HSB := Lib.hid hSb
  have HSN := Lib.hid hSn
  have HOFF := Lib.hid hoff
  have HS4 := Lib.hid hs4
  have HK4 := Lib.hid (HA3.out.trans hk4)
  clear hg hSb hSn hSz hoff hnp hnq hs4 hk4
  go_wp2_with fail
  refine (body_any _ g 0 0 S HS4.out HOFF.out 3 (by omega)).mono ?_
  intro e w5 h5
  rw [BodyPost, padN_3, HSN.out, HL.out, HSB.out, H3.out] at h5
  rcases h5 with ⟨_, p5, rfl, hb5, hnew5, ⟨t5, hs5⟩, hk5⟩ | ⟨h5, _⟩
  · have HB5' := Lib.hid hb5
    have HS5 := Lib.hid hs5
    have HK5 := Lib.hid hk5
    have HNEW5 := Lib.hid hnew5
    clear hb5 hs5 hk5 hnew5
    go_wp2_with fail
    refine (block_any _ g _ t5 S HS5.out HOFF.out).mono ?_
    intro e w6 h6
    have hsn : S.n = 1536 := by rw [HSN.out, HL.out]
    rcases h6 with ⟨h6, _⟩ | ⟨_, ⟨_, v6, rfl, ho6, ⟨t6, hs6⟩, hk6⟩ | ⟨h6, _⟩⟩
    · omega
    · obtain ⟨p6, c6, rfl, _⟩ := ho6.slice
      have hs6' : Src w6 g S 1024 t6 := hs6
      have HS6 := Lib.hid hs6'
      have hk26 : Kept (oneB g) w2 w6 := ((HK3.out.trans HK4.out).of_none _).trans (HK5.out.trans hk6)
      have hgb : w2.heap.size ≤ g := Nat.le_trans (HK3.out.trans HA3.out).size HG.out
      have HK26 := Lib.hid hk26
      have HGB := Lib.hid hgb
      have HB6 := Lib.hid (HB5'.out.kept hk6 (fun _ x hx e => by
        have h1 := HNEW5.out x hx
        have h2 := HS4.out.lt
        have h3 : x.block = g := e
        omega))
      clear hs6 hk6 ho6 hsn hs6' hk26 hgb
      go_wp2_with fail
      refine (out_any w6 w.heap.size w.heap.size v2 D (HS2.out.kept HK26.out (fun e => by
        have h1 := HS2.out.lt
        have h2 := HGB.out
        have h3 : w.heap.size = g := e
        omega) (fun k hk e => by
        have h1 := (HS2.out.own.lt k hk).2
        have h2 := HGB.out
        have h3 : k = g := e
        omega)) (by rw [HL.out]; omega)).mono ?_
      rintro e w7 ⟨v7, rfl, ho7, hk7⟩
      rw [HL.out] at ho7
      obtain ⟨p7, c7, rfl, _⟩ := ho7.slice
      have HK7 := Lib.hid hk7
      have cs : (convert 22 9 (.slice p5 3 3)).run Tryd.prog w7 = .ok (.string ⟨#[97, 98, 99]⟩) w7 := conv_at (HB6.out.kept hk7 (fun _ _ _ => id)) rfl _ _ _ Tryd.underlying22 Tryd.underlying5 Tryd.underlying9 3
      clear ho7 hk7
      go_wp2_with fail
      refine (place_any w7 g 1024 t6 S (HS6.out.kept0 HK7.out)).mono ?_
      rintro e w8 ⟨rfl, rfl⟩
      go_wp2_with fail
      refine (rest_any w7 g 1024 t6 S (HS6.out.kept0 HK7.out)).mono ?_
      rintro e w8 ⟨rfl, hs8, hk8⟩
      rw [HSB.out, HR.out]
      have HF := Lib.hid ((HK2.out.then HK26.out (fun i hi => Or.inl (by
        have h1 := HK2.out.size
        have h2 := HGB.out
        have h3 : i = g := hi
        omega))).trans (HK7.out.trans hk8))
      clear hs8 hk8 cs
      go_wp2
      go_ret
      exact ⟨rfl, HF.out⟩
    · omega
  · omega
end Go.Proofs.YtindibabpfdljaaDoor.Block
