/- Layer record's number, by contract: what a line's digits say; strconv.ParseUint laid at this dump. -/
import Derived.Test.YtodlkjlcihcciaaDoorRecNeed
import Derived.Test.YtodlkjlcihcciaaDoorRecPu
import Derived.Test.YtodlkjlcihcciaaDoorBytStr
import Derived.BigQuiet
namespace Go.Proofs.YtodlkjlcihcciaaDoor.Rec
open Go.ChangeShapes Go.WideShapes Go.ChangeAt Go.RowKit Go.Shelf Go.Proofs.YtodlkjlcihcciaaDoor.Base Go.Proofs.YtodlkjlcihcciaaDoor.Byt Go.Proofs.YtodlkjlcihcciaaDoor.Txt Go.Proofs.YtodlkjlcihcciaaDoor.Path Go.Proofs.YtodlkjlcihcciaaDoor.Num Go.Lib
set_option linter.unusedVariables false
set_option maxRecDepth 100000

/-- what ParseUint hands back of few bytes, in the package's own words -/
theorem puint_any (l : List UInt8) (w : World) (h1 : 1 ≤ l.length) (h2 : l.length ≤ 7) (hN : Need w) :
    Calls Tryd.prog 33 #[.string (str l), .int .i64 10, .int .i64 64] w fun e w' =>
      ∃ (u : Nat) (x : Value), e = .returned (.tuple #[.int .u64 (u : Int), x]) ∧ Below w.heap.size w w' ∧
        ((l.all isDig = true ∧ u = valL l ∧ x = .nilIface) ∨ (l.all isDig = false ∧ u = 0 ∧ ∃ t y, x = .iface t y)) := by
  have hp := parse_few l h1 (by omega)
  have hs : (str l).size = l.length := str_size l
  cases hd : l.all isDig with
  | true =>
    rw [hd, if_pos rfl] at hp
    refine (Any.strconv_ParseUint_10_at64_ok Tryd.laysPu (str l) (by omega) (valL l) (by rw [str_data]; exact hp) w).mono ?_
    rintro e w' ⟨rfl, hw⟩
    refine ⟨valL l, .nilIface, rfl, ?_, .inl ⟨rfl, rfl, rfl⟩⟩
    rcases hw with rfl | rfl
    · exact Below.refl _ _
    · exact str_below w _ _
  | false =>
    rw [hd, if_neg (by simp)] at hp
    obtain ⟨tp, p, hv⟩ := hN.2.1
    refine (Any.strconv_ParseUint_10_at64_syntax_var Tryd.laysPu (str l) (by omega) (by rw [str_data]; exact hp) tp p w hv).mono ?_
    rintro e w' ⟨N, rfl, _, _, hb⟩
    exact ⟨0, _, rfl, hb, .inr ⟨rfl, rfl, _, _, rfl⟩⟩
theorem recNum_any (p : Option Addr) (n c : Nat) (bs : List UInt8) (w : World) (hn : bs.length = n) (hm : n ≤ 1000000000000) (h : BAt w p n bs) (hN : Need w) :
    Calls Tryd.prog 26 #[.slice p n c] w fun e w' => e = .returned (wholeV (numD bs)) ∧ Below w.heap.size w w' := by
  have mixed : Tryd.prog.follows .mixedOrders = true := by kernel_rfl
  by_cases hr : 1 ≤ n ∧ n ≤ 7
  · have hi : inB (n : Int) 1 7 = true := inB_true (by omega) (by omega)
    obtain ⟨b, o, rfl, hc⟩ := h (by omega)
    have hc0 := hc 0 (by omega)
    rw [Nat.add_zero] at hc0
    obtain ⟨C, hC⟩ : ∃ C : Nat, (bs.getD 0 0).toNat = C := ⟨_, rfl⟩
    rw [hC] at hc0
    have hnz : (0 : Int) < (n : Int) := by omega
    by_cases h48 : bs.getD 0 0 = 48
    · have e : numD bs = none := by unfold numD; rw [if_pos (.inr (.inr h48))]
      rw [e]
      have hb : ((C : Int) == 48) = true := by rw [← hC, h48]; rfl
      clear h hN hc h48 hC e hn
      go_enter Tryd.func26, Tryd.ntmps26
      go_wp2_with (go_at_call 27; refine (in_any _ _ _ _).mono ?_; rw [hi]; rintro e w2 ⟨rfl, rfl⟩)
      go_ret2
      exact ⟨rfl, Below.refl _ _⟩
    · have hb : ((C : Int) == 48) = false := by
        rw [beq_eq_false_iff_ne]
        intro e
        refine h48 (UInt8.toNat_inj.1 ?_)
        rw [hC]
        show C = 48
        omega
      have HP := Lib.hid (puint_any bs w (by omega) (by omega) hN)
      have cs := conv_at h hn 22 5 9 Tryd.underlying22 Tryd.underlying5 Tryd.underlying9 c
      have HND : Hid (numD bs = if bs.all isDig then some (valL bs) else none) := Lib.hid (by
        unfold numD
        rw [if_neg (by
          rintro (e | e | e)
          · omega
          · omega
          · exact h48 e)])
      have HVL : Hid (bs.all isDig = true → valL bs < 10000000) := Lib.hid (fun hd => by
        have h3 := valL_lt bs (List.all_eq_true.1 hd)
        have h5 : 10 ^ bs.length ≤ 10 ^ 7 := Nat.pow_le_pow_right (by omega) (by omega)
        have h6 : (10 : Nat) ^ 7 = 10000000 := by decide
        omega)
      clear h hN hc h48 hC hn
      go_enter Tryd.func26, Tryd.ntmps26
      go_wp2_with (go_at_call 27; refine (in_any _ _ _ _).mono ?_; rw [hi]; rintro e w2 ⟨rfl, rfl⟩)
      rw [show (⟨bs.toArray⟩ : ByteArray) = str bs from rfl]
      go_at_call 33
      refine HP.out.mono ?_
      rintro e w1 ⟨u, x, rfl, hb1, (⟨hd, rfl, rfl⟩ | ⟨hd, rfl, t, y, rfl⟩)⟩
      · have hu := HVL.out hd
        have HE : Hid (numD bs = some (valL bs)) := Lib.hid (by rw [HND.out, hd]; rfl)
        obtain ⟨u, hu2⟩ : ∃ u, valL bs = u := ⟨_, rfl⟩
        rw [hu2] at hu HE ⊢
        have q1 : IntKind.i64.wrap (u : Int) = (u : Int) := by rw [IntKind.wrap_i64]; omega
        have HB := Lib.hid hb1
        clear hb1 hd hu2 cs HVL
        go_wp2_with fail
        go_quiet (fail)
        have HBD := Lib.hid (below_drewN HB.out nq)
        go_wp2
        go_ret2
        rw [HE.out]
        exact ⟨rfl, HBD.out⟩
      · have HE : Hid (numD bs = none) := Lib.hid (by rw [HND.out, hd]; rfl)
        have HB := Lib.hid hb1
        clear hb1 hd cs HVL
        go_wp2_with fail
        go_quiet (fail)
        have HBD := Lib.hid (below_drewN HB.out nq)
        go_wp2
        go_ret2
        rw [HE.out]
        exact ⟨rfl, HBD.out⟩
  · have hi : inB (n : Int) 1 7 = false := inB_false (by omega)
    have e : numD bs = none := by unfold numD; rw [if_pos (by omega)]
    rw [e]
    clear h hN e hn hr
    go_enter Tryd.func26, Tryd.ntmps26
    go_wp2_with (go_at_call 27; refine (in_any _ _ _ _).mono ?_; rw [hi]; rintro e w2 ⟨rfl, rfl⟩)
    go_ret2
    exact ⟨rfl, Below.refl _ _⟩
end Go.Proofs.YtodlkjlcihcciaaDoor.Rec
