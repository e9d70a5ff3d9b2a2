/- The walks over the laws of layer field: each returns true, and writes nothing that was there. -/
import Derived.Test.YtlofmlpjleockaaDoorFieldParse
import Derived.Test.YtlofmlpjleockaaDoorRefField
import Derived.Test.YtlofmlpjleockaaDoorRefPut
import Derived.Lib.SlBytesConst
namespace Go.Proofs.YtlofmlpjleockaaDoor.Field
open Go.ChangeShapes Go.WideShapes Go.ChangeAt Go.RowKit Go.Proofs.YtlofmlpjleockaaDoor.Base Go.Proofs.YtlofmlpjleockaaDoor.Num Go.Proofs.YtlofmlpjleockaaDoor.Fp Go.Proofs.YtlofmlpjleockaaDoor.Byt
set_option linter.unusedVariables false
open Go.Lib (bytesOf)

theorem vI_some (x : Int) : valI (some x) = x := rfl
theorem oI_some (x : Int) : okI (some x) = true := rfl
theorem vI_none : valI none = 0 := rfl
theorem oI_none : okI none = false := rfl
/-- what Put leaves, as a slice of bytes -/
theorem put_bat {w w' : World} {r : Option (List Int)} {n wide : Int} (hr : r = putF n wide) {l : List Int} {v : Value} (h : r = some l) (hown : w'.ownsRow w.heap.size 5 1 v l.length (l.map (Value.int .u8))) :
    ∃ p c, v = .slice p l.length c ∧ l.length ≤ c ∧ c ≤ maxLen ∧ BAt w' p l.length (bytesOf l) ∧ (bytesOf l).length = l.length :=
  bat_of_own hown (putF_bd (hr ▸ h))
/-- a list of bytes that has just been laid -/
theorem new_bat (w : World) (l : List Int) (t : TypeId) (hl : ∀ x ∈ l, 0 ≤ x ∧ x < 256) : BAt (w.alloc (.cells (l.map (Value.int .u8)).toArray t)) (some ⟨w.heap.size, 0, none⟩) l.length (bytesOf l) :=
  bat_of_ints rfl hl fun h0 => ⟨_, 0, rfl, fun i hi => by
    rw [World.cell?_alloc_at _ _ _ _ rfl, Nat.zero_add]
    simp [List.getD, hi]⟩
/-- a constant list of bytes: the row is laid, and marked behind its end -/
theorem const_bat (w : World) (l : List Int) (t : TypeId) (fr : Nat × Nat) (hl : ∀ x ∈ l, 0 ≤ x ∧ x < 256) : BAt (w.alloc (.cells (l.map (Value.int .u8)).toArray t fr)) (some ⟨w.heap.size, 0, none⟩) l.length (bytesOf l) :=
  bat_of_ints rfl hl fun h0 => ⟨_, 0, rfl, fun i hi => by
    rw [World.cell?_alloc_mark, Nat.zero_add]
    simp [List.getD, hi]⟩
set_option maxHeartbeats 1000000 in
theorem ans02_any (w : World) :
    Calls Tryd.prog 8 #[] w fun e w' => e = .returned (.bool true) ∧ Below w.heap.size w w' := by
  go_enter Tryd.func8, Tryd.ntmps8
  go_wp2_with fail
  refine (put_any 512 4 _ (by decide) (by decide)).mono ?_
  rintro e w1 ⟨hb1, (⟨l, v, hl, rfl, hown⟩ | ⟨hl, _⟩)⟩
  · obtain rfl : l = [128, 0, 2, 0] := Option.some.inj (hl.symm.trans (by decide))
    obtain ⟨p, c, rfl, hc, hm, hbat, _⟩ := put_bat rfl hl hown
    clear hown hl
    have HB := Lib.hid hbat
    have HB1 := Lib.hid hb1
    clear hbat hb1
    go_wp2_with fail
    refine (parse_any p 4 c _ w1 rfl hc hm HB.out).mono ?_
    rintro e w2 ⟨rfl, hb2⟩
    rw [show parseF (bytesOf [128, 0, 2, 0]) = some 512 by decide, vI_some, oI_some]
    have HB2 := Lib.hid hb2
    clear hb2
    have N5 := Lib.hid (const_bat w2 [32, 49, 55, 32, 0] 5 (5, 6) (by decide))
    have C5 := Lib.run_convert_bytes_const (P := Tryd.prog) w2 22 5 #[.int .u8 32, .int .u8 49, .int .u8 55, .int .u8 32, .int .u8 0] 5 5 Tryd.underlying22 Tryd.underlying5
    go_wp2_with fail
    refine (parse_any _ 5 5 _ _ rfl (by omega) (by decide) N5.out).mono ?_
    rintro e w3 ⟨rfl, hb3⟩
    rw [show parseF (bytesOf [32, 49, 55, 32, 0]) = some 15 by decide, vI_some, oI_some]
    have hb : Below w1.heap.size w1 w3 := below_trans (HB2.out.alloc HB2.out.size _) hb3
    have cs : (convert 22 9 (.slice p 4 c)).run Tryd.prog w3 = .ok (.string ⟨#[128, 0, 2, 0]⟩) w3 := conv_at (HB.out.below hb) rfl _ _ _ Tryd.underlying22 Tryd.underlying5 Tryd.underlying9 c
    have HF := Lib.hid (below_trans HB1.out hb)
    clear hb hb3 C5
    go_wp2
    go_ret
    exact ⟨rfl, HF.out⟩
  · exact absurd hl (by decide)
end Go.Proofs.YtlofmlpjleockaaDoor.Field
