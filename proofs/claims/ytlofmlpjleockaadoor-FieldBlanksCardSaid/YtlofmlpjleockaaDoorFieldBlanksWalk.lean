/- The walk over FieldBlanks: it returns true, and writes nothing that was there. -/
import Derived.Test.YtlofmlpjleockaaDoorFieldWideWalk
import Derived.Test.YtlofmlpjleockaaDoorBytStr
namespace Go.Proofs.YtlofmlpjleockaaDoor.Walk
open Go.ChangeShapes Go.WideShapes Go.ChangeAt Go.RowKit Go.Proofs.YtlofmlpjleockaaDoor.Base Go.Proofs.YtlofmlpjleockaaDoor.Num Go.Proofs.YtlofmlpjleockaaDoor.Fp Go.Proofs.YtlofmlpjleockaaDoor.Byt Go.Proofs.YtlofmlpjleockaaDoor.Field
set_option linter.unusedVariables false
open Go.Lib (bytesOf bytesOf_length)

theorem wf32u {n : Int} (h : (Lit.int .u32 n).wf = true) : 0 ≤ n ∧ n ≤ 4294967295 := by
  have h1 : IntKind.u32.min = 0 := rfl
  have h2 : IntKind.u32.max = 4294967295 := rfl
  simp only [Lit.wf, Bool.and_eq_true, decide_eq_true_eq] at h
  omega
theorem rest29 (n : Int) (h0 : 0 ≤ n) (h1 : n ≤ 4294967295) : restD 8 29 n = 0 := by
  rw [restD_shift]
  exact Int.ediv_eq_zero_of_lt h0 (by
    have : (4294967296 : Int) ≤ 2 ^ (3 * 29) := by decide
    omega)
set_option maxHeartbeats 2000000 in
set_option maxRecDepth 100000 in
theorem fieldBlanks (n ahead behind : Int) (zeros : Bool) (w : World) (w0 : (Lit.int .u32 n).wf = true) (w1 : (Lit.int .u8 ahead).wf = true) (w2 : (Lit.int .u8 behind).wf = true) :
    Calls Tryd.prog 6 #[.int .u32 n, .int .u8 ahead, .int .u8 behind, .bool zeros] w fun e w' => e = .returned (.bool true) ∧ Below w.heap.size w w' := by
  obtain ⟨hn0, hn1⟩ := wf32u w0
  obtain ⟨ha0, ha1⟩ := wf8 w1
  obtain ⟨hb0, hb1⟩ := wf8 w2
  clear w0 w1 w2
  have hr := rest29 n hn0 hn1
  have hp : putF n 30 = some (putD 8 48 29 n ++ [0]) := putF_fits hn0 (by omega) (by omega) (by omega) hr
  have HR := Lib.hid hr
  have HP := Lib.hid hp
  have hwf : (Lit.int .i64 n).wf = true := by
    have h1 : IntKind.i64.min = -9223372036854775808 := rfl
    have h2 : IntKind.i64.max = 9223372036854775807 := rfl
    simp only [Lit.wf, Bool.and_eq_true, decide_eq_true_eq]
    omega
  have W0 := Lib.hid hwf
  clear hr hp hwf
  go_enter Tryd.func6, Tryd.ntmps6
  go_wp2_with fail
  refine (put_any n 30 _ W0.out (by decide)).mono ?_
  rintro e wa ⟨hb, (⟨l1, v, hl, rfl, hown⟩ | ⟨hl, _⟩)⟩
  case inr => rw [HP.out] at hl; cases hl
  obtain rfl : putD 8 48 29 n ++ [0] = l1 := Option.some.inj (HP.out.symm.trans hl)
  obtain ⟨p, c, rfl, hc, hm, hbat, hbl⟩ := put_bat rfl hl hown
  have hlen : (putD 8 48 29 n ++ [0]).length = 30 := by rw [List.length_append, putD_length]; rfl
  rw [hlen] at hc hbat hbl ⊢
  have hb29 : BAt wa p 29 (bytesOf (putD 8 48 29 n)) := by
    have := hbat.take (k := 29) (by omega)
    rw [bytesOf_append, List.take_append_of_le_length (by rw [bytesOf_length, putD_length]; omega), List.take_of_length_le (by rw [bytesOf_length, putD_length]; omega)] at this
    exact this
  have hpf := fun (b1 b2 : List UInt8) => parseF_octal n 29 (by omega) hn0 (by omega) HR.out b1 b2
  obtain ⟨L, hL, hLl⟩ : ∃ L, L = bytesOf (putD 8 48 29 n) ∧ L.length = 29 := ⟨_, rfl, by rw [bytesOf_length, putD_length]⟩
  rw [← hL] at hb29 hpf
  obtain ⟨ds, hds, hdl⟩ : ∃ ds : ByteArray, ds = ⟨L.toArray⟩ ∧ ds.data.toList = L := ⟨_, rfl, rfl⟩
  have cv := conv_bat hb29 hLl c
  rw [← hds] at cv
  have hdz : ds.size = 29 := by rw [← str_len, hdl, hLl]
  have HPF := Lib.hid hpf
  have HDL := Lib.hid hdl
  have HDZ := Lib.hid hdz
  have HB := Lib.hid hb
  have HM := Lib.hid hm
  clear hl hown hbat hbl hlen hb29 hds hb hdz hL hLl hdl hpf hm HP
  go_wp2_with fail
  go_loop [11, 12] (fun s i => ∃ (k : Nat) (st : ByteArray), (k : Int) ≤ ahead % 9 ∧ i = .int .i64 k ∧ s = .string st ∧ Hid (st.data.toList = List.replicate k 32)) (fun _ i => 9 - (intOf i).toNat)
  case atStart => exact ⟨0, ⟨#[]⟩, by omega, rfl, rfl, Lib.hid rfl⟩
  case round =>
    obtain ⟨k, st, hk, rfl, rfl, hst⟩ := hrel
    have hsz : (st.size : Int) ≤ 100 := by
      have : st.size = k := by rw [← str_len, hst.out, List.length_replicate]
      omega
    by_cases hlt : (k : Int) < ahead % 9
    · go_wp2_with fail
      go_round
      case rel => exact ⟨k + 1, _, by omega, by go_num, rfl, Lib.hid (by rw [str_app, hst.out, List.replicate_succ'])⟩
      case measure => simp [intOf]; omega
    · have hdsz : (ds.size : Int) ≤ 100 := by rw [HDZ.out]; decide
      go_wp2_with fail
      go_loop [11, 13] (fun s i => ∃ (j : Nat) (s2 : ByteArray) (b2 : List UInt8), (j : Int) ≤ behind % 9 ∧ (s2.size : Int) ≤ 129 + j ∧ i = .int .i64 j ∧ s = .string s2 ∧ Hid (s2.data.toList = List.replicate k 32 ++ L ++ b2 ∧ ∀ x ∈ b2, x = 32 ∨ x = 0)) (fun _ i => 9 - (intOf i).toNat)
      case atStart => exact ⟨0, st ++ ds, [], by omega, by rw [ByteArray.size_append, HDZ.out]; omega, rfl, rfl, Lib.hid ⟨by rw [str_app, hst.out, HDL.out, List.append_nil], fun x hx => by simp at hx⟩⟩
      case round =>
        obtain ⟨j, s2, b2, hj, hs2, rfl, rfl, hh⟩ := hrel
        have hs2' : (s2.size : Int) ≤ 200 := by omega
        by_cases hlt2 : (j : Int) < behind % 9
        · by_cases hz : zeros = true ∧ (j : Int) % 2 = 0
          · obtain ⟨hz1, hz2⟩ := hz
            have hzb : ((j : Int) % 2 == 0) = true := by rw [hz2]; rfl
            clear hz2
            subst hz1
            go_wp2_with fail
            go_round
            case rel => exact ⟨j + 1, s2 ++ ⟨#[0]⟩, b2 ++ [0], by omega, by rw [ByteArray.size_append]; show ((s2.size + 1 : Nat) : Int) ≤ _; omega, by go_num, rfl, Lib.hid ⟨by rw [str_app, hh.out.1, List.append_assoc _ b2], fun x hx => by
              rcases List.mem_append.1 hx with h | h
              · exact hh.out.2 x h
              · right; simpa using h⟩⟩
            case measure => simp [intOf]; omega
          · have hzb : (zeros && (j : Int) % 2 == 0) = false := by
              cases zeros
              · rfl
              · simp at hz ⊢; omega
            cases zeros
            · go_wp2_with fail
              go_round
              case rel => exact ⟨j + 1, s2 ++ ⟨#[32]⟩, b2 ++ [32], by omega, by rw [ByteArray.size_append]; show ((s2.size + 1 : Nat) : Int) ≤ _; omega, by go_num, rfl, Lib.hid ⟨by rw [str_app, hh.out.1, List.append_assoc _ b2], fun x hx => by
                rcases List.mem_append.1 hx with h | h
                · exact hh.out.2 x h
                · left; simpa using h⟩⟩
              case measure => simp [intOf]; omega
            · have hzb2 : ((j : Int) % 2 == 0) = false := by simpa using hzb
              clear hzb hz
              go_wp2_with fail
              go_round
              case rel => exact ⟨j + 1, s2 ++ ⟨#[32]⟩, b2 ++ [32], by omega, by rw [ByteArray.size_append]; show ((s2.size + 1 : Nat) : Int) ≤ _; omega, by go_num, rfl, Lib.hid ⟨by rw [str_app, hh.out.1, List.append_assoc _ b2], fun x hx => by
                rcases List.mem_append.1 hx with h | h
                · exact hh.out.2 x h
                · left; simpa using h⟩⟩
              case measure => simp [intOf]; omega
        · have hm2 : s2.size ≤ maxLen := by unfold maxLen; omega
          obtain ⟨hc1, hc2⟩ := str_cap wa 5 s2 hm2
          have hpar : parseF s2.data.toList = some n := by
            rw [hh.out.1]
            exact HPF.out _ b2 (fun x hx => (List.mem_replicate.1 hx).2) hh.out.2
          have HPAR := Lib.hid hpar
          have cvb := Lib.run_convert_string_bytes (P := Tryd.prog) wa 9 22 5 s2 Tryd.underlying9 Tryd.underlying22 Tryd.underlying5
          clear hpar cv
          go_wp2_with fail
          refine (parse_any _ s2.size _ _ _ (str_len s2) hc1 hc2 (str_bat wa 5 s2)).mono ?_
          rintro e wb ⟨rfl, hb2⟩
          rw [HPAR.out, vI_some, oI_some]
          have HB2 := Lib.hid (below_trans (below_trans HB.out (str_below wa 5 s2)) hb2)
          clear hb2 cvb
          go_wp2_with fail
          refine (ans02_any _).mono ?_
          rintro e we ⟨rfl, hb5⟩
          have HBG := Lib.hid (below_trans HB2.out hb5)
          clear hb5
          go_wp2
          go_ret
          exact ⟨rfl, HBG.out⟩
end Go.Proofs.YtlofmlpjleockaaDoor.Walk
