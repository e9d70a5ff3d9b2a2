/- The document's own Line, by contract. -/
import Derived.Test.YtodlkjlcihcciaaDoorRecRef
namespace Go.Proofs.YtodlkjlcihcciaaDoor.Rec
open Go.ChangeShapes Go.WideShapes Go.ChangeAt Go.RowKit Go.Proofs.YtodlkjlcihcciaaDoor.Base Go.Proofs.YtodlkjlcihcciaaDoor.Byt Go.Proofs.YtodlkjlcihcciaaDoor.Txt Go.Proofs.YtodlkjlcihcciaaDoor.Path Go.Lib
set_option linter.unusedVariables false
set_option maxRecDepth 100000

set_option maxHeartbeats 1000000 in
theorem line_any (k v : List UInt8) (w : World) (hkv : k.length + v.length ≤ 1000000000000) :
    Calls Tryd.prog 15 #[.agg #[.string (str k), .string (str v)]] w fun e w' => e = .returned (.string (str (lineD k v))) ∧ Below w.heap.size w w' := by
  obtain ⟨n1, hn1⟩ : ∃ n, (str k).size = n := ⟨_, rfl⟩
  obtain ⟨n2, hn2⟩ : ∃ n, (str v).size = n := ⟨_, rfl⟩
  have m1 : k.length = n1 := by rw [← hn1, str_size]
  have m2 : v.length = n2 := by rw [← hn2, str_size]
  have hbd : (⟨#[32]⟩ : ByteArray) ++ str k ++ ⟨#[61]⟩ ++ str v ++ ⟨#[10]⟩ = str (bodyD k v) := by
    rw [show (⟨#[32]⟩ : ByteArray) = str [32] from rfl, show (⟨#[61]⟩ : ByteArray) = str [61] from rfl, show (⟨#[10]⟩ : ByteArray) = str [10] from rfl, str_app, str_app, str_app, str_app]
    simp [bodyD]
  have s1 : 1 + n1 ≤ 9223372036854775807 := by omega
  have s2 : 1 + n1 + 1 ≤ 9223372036854775807 := by omega
  have s3 : 1 + n1 + 1 + n2 ≤ 9223372036854775807 := by omega
  have s4 : 1 + n1 + 1 + n2 + 1 ≤ 9223372036854775807 := by omega
  obtain ⟨B, hB⟩ : ∃ B, B = str (bodyD k v) := ⟨_, rfl⟩
  obtain ⟨m, hm⟩ : ∃ m, m = (bodyD k v).length := ⟨_, rfl⟩
  have hBs : B.size = m := by rw [hB, str_size, hm]
  have hm2 : m = n1 + n2 + 3 := by rw [hm, bodyD_length, m1, m2]
  rw [← hB] at hbd
  have HL : Hid (str (lineD k v) = str (decL (lineN m)) ++ B) := Lib.hid (by rw [hB, str_app, lineD, hm])
  have HLN := Lib.hid (lineN_ge m)
  have HLE := Lib.hid (lineN_eq m (by omega))
  have HD : Hid ((decL m).length ≤ 18) := Lib.hid (dec_le m 18 (by omega) (by omega))
  have HM2 := Lib.hid hm2
  have hmb : (m : Int) ≤ 1000000000003 := by omega
  obtain ⟨c0, c1⟩ := cells2 w 31 (.string (str k)) (.string (str v))
  have hbel : Hid (Below w.heap.size w (w.alloc (.cells #[.string (str k), .string (str v)] 31))) := Lib.hid ((Below.refl _ _).alloc (Nat.le_refl _) _)
  clear m1 m2 hB hm hm2 hkv
  go_enter Tryd.func15, Tryd.ntmps15
  go_wp2_with fail
  clear s1 s2 s3 s4 c0 c1 hn1 hn2
  go_loopw [4] (fun i wr => ∃ (n : Nat), m ≤ n ∧ n ≤ lineN m ∧ i = .int .i64 (n : Int) ∧ Hid (Below w.heap.size w wr)) (fun i _ => lineN m - (RowKit.intOf i).toNat)
  case atStart => exact ⟨m, Nat.le_refl _, HLN.out.1, by first | rfl | (congr 1; omega) | (simp; omega), hbel⟩
  case round =>
    obtain ⟨n, hmn, hnl, rfl, hB⟩ := hrel
    have hb := HLN.out.2
    have hd := HD.out
    have hn18 : n < 1000000000000000000 := by omega
    have hn64 : (n : Int) < 1000000000000000000 := by omega
    obtain ⟨d, hdl⟩ : ∃ d, (str (decL n)).size = d := ⟨_, rfl⟩
    have hdl2 : (decL n).length = d := by rw [← hdl, str_size]
    have hdb : d ≤ 18 := by rw [← hdl2]; exact dec_le n 18 (by omega) hn18
    have HDL := Lib.hid hdl2
    have HN := Lib.hid (And.intro hmn hnl)
    have HN18 := Lib.hid hn18
    clear hmn hnl hb hd hdl2 hn18
    by_cases he : n = lineN m
    · have hE : Hid (d + m = n) := Lib.hid (by rw [← HDL.out, he]; exact HLE.out)
      have ht : ((d : Int) + (m : Int) != (n : Int)) = false := by have := hE.out; simp; omega
      have HE := Lib.hid he
      clear he
      go_wp2_with fail
      refine (dec_any n wr HN18.out).mono ?_
      rintro e w1 ⟨rfl, hb1⟩
      have HB1 := Lib.hid (hB.out.trans (hb1.mono hB.out.size))
      clear hb1
      have hss : d + m ≤ 9223372036854775807 := by omega
      go_wp2_with fail
      refine (dec_any n w1 HN18.out).mono ?_
      rintro e w2 ⟨rfl, hb2⟩
      have HB2 := Lib.hid (HB1.out.trans (hb2.mono HB1.out.size))
      clear hb2
      go_wp2
      go_ret
      rw [HL.out, ← HE.out]
      exact ⟨rfl, HB2.out⟩
    · have hlt : Hid (n < lineN m) := Lib.hid (by have := HN.out.2; omega)
      have ht : ((d : Int) + (m : Int) != (n : Int)) = true := by
        have := lineN_least m n HN.out.1 hlt.out
        rw [HDL.out] at this
        simp; omega
      clear he
      go_wp2_with fail
      refine (dec_any n wr HN18.out).mono ?_
      rintro e w1 ⟨rfl, hb1⟩
      have HB1 := Lib.hid (hB.out.trans (hb1.mono hB.out.size))
      clear hb1
      go_wp2
      have h1 := HN.out
      have h2 := hlt.out
      have h3 := HN18.out
      first
        | (refine ⟨⟨n + 1, by omega, by omega, by go_num, HB1⟩, ?_⟩; simp [RowKit.intOf]; omega)
        | (go_roundw
           case rel => exact ⟨n + 1, by omega, by omega, by go_num, HB1⟩
           case measure => simp [RowKit.intOf]; omega)
end Go.Proofs.YtodlkjlcihcciaaDoor.Rec
