import Derived.Test.YtdjedimjhogdoaaGreatDoorZ2
import Derived.Laws.StructEq
import Derived.BigQuiet
import Derived.Test.YtdjedimjhogdoaaGreatDoorZ4
import Derived.Test.YtdjedimjhogdoaaGreatDoorZ3
import Derived.Lib.ItoaNum
import Derived.Lib.LaidTab
import Derived.Deep.Draws
import Derived.Shelf.RegionOpenPlain
import Derived.Test.YtdjedimjhogdoaaGreatDoorRows
import Derived.Shelf.Strconv.Itoa3
import Derived.Shelf.Pu.ErrVarParseUint
import Derived.Test.YtdjedimjhogdoaaGreatDoorZ5
import Derived.Lib.SlBytesConst
import Derived.Lib.AppendStr
import Derived.Test.YtdjedimjhogdoaaGreatDoorZ6
import Derived.BigRegion
import Derived.Deep.QuietTactic
import Derived.Deep.RegionHeldLaw
import Derived.Shelf.Bytes.SlIndexAt
section
namespace Go.Proofs.YtdjedimjhogdoaaGreatDoor.Rec
open Go.ChangeShapes Go.WideShapes Go.ChangeAt Go.RowKit Go.Proofs.YtdjedimjhogdoaaGreatDoor.Base Go.Proofs.YtdjedimjhogdoaaGreatDoor.Byt Go.Proofs.YtdjedimjhogdoaaGreatDoor.Txt Go.Proofs.YtdjedimjhogdoaaGreatDoor.Path Go.Lib
set_option linter.unusedVariables false
set_option maxRecDepth 100000

theorem index_is (l : List UInt8) (c : UInt8) (i : Nat) (hi : i < l.length) (hn : ∀ j, j < i → l.getD j 0 ≠ c) (h : l.getD i 0 = c) : indexByte l c = i := by
  have e : l = l.take i ++ c :: l.drop (i + 1) := by
    have h2 : l[i] = c := by rw [← h, List.getD, List.getElem?_eq_getElem hi]; rfl
    rw [← h2, List.getElem_cons_drop, List.take_append_drop]
  have hc : (l.take i).contains c = false := by
    cases hh : (l.take i).contains c with
    | false => rfl
    | true =>
      obtain ⟨j, hj, he⟩ := List.mem_iff_getElem.1 (List.contains_iff_mem.1 hh)
      rw [List.length_take] at hj
      rw [List.getElem_take] at he
      exact absurd (by rw [List.getD, List.getElem?_eq_getElem (by omega), he]; rfl) (hn j (by omega))
  rw [e, index_first _ _ _ hc, List.length_take]
  omega
theorem index_not (l : List UInt8) (c : UInt8) (hn : ∀ j, j < l.length → l.getD j 0 ≠ c) : indexByte l c < 1 := by
  have h1 := index_has l c
  have hc : l.contains c = false := by
    cases hh : l.contains c with
    | false => rfl
    | true =>
      obtain ⟨j, hj, he⟩ := List.mem_iff_getElem.1 (List.contains_iff_mem.1 hh)
      exact absurd (by rw [List.getD, List.getElem?_eq_getElem hj, he]; rfl) (hn j hj)
  rw [hc, decide_eq_false_iff_not] at h1
  omega
theorem ext_data (S : ByteArray) (a b : Nat) : (S.extract a b).data.toList = (S.data.toList.drop a).take (b - a) := by
  rw [ByteArray.data_extract, Array.toList_extract, List.extract_eq_take_drop]
theorem ext_end (S : ByteArray) (a : Nat) : S.extract a S.size = str (S.data.toList.drop a) := by
  apply ByteArray.ext
  rw [← Array.toList_inj]
  show (S.extract a S.size).data.toList = _
  rw [ext_data]
  simp only [str]
  rw [List.take_of_length_le (by rw [List.length_drop, ← size_of]; exact Nat.le_refl _)]
theorem ext_str (S : ByteArray) (a b : Nat) : S.extract a b = str ((S.data.toList.drop a).take (b - a)) := by
  rw [← ext_data, str_of]
theorem recStep_go {R T : Int} {l : List UInt8} (h : ¬ (digN l < 1 ∨ 7 < digN l ∨ l.getD 0 0 = 48 ∨ digN l = l.length ∨ l.getD (digN l) 0 ≠ 32)) :
    (l.length < valL (l.take (digN l)) ∨ valL (l.take (digN l)) < digN l + 4 ∨ l.getD (valL (l.take (digN l)) - 1) 0 ≠ 10 → recStep R T l = .error R) ∧
    (¬ (l.length < valL (l.take (digN l)) ∨ valL (l.take (digN l)) < digN l + 4 ∨ l.getD (valL (l.take (digN l)) - 1) 0 ≠ 10) → ∀ line, line = (l.drop (digN l + 1)).take (valL (l.take (digN l)) - 1 - (digN l + 1)) →
      (indexByte line 61 < 1 → recStep R T l = .error R) ∧ (¬ indexByte line 61 < 1 → textD line = false → recStep R T l = .error T) ∧
      (¬ indexByte line 61 < 1 → textD line = true → recStep R T l = .ok (line.take (indexByte line 61).toNat, line.drop ((indexByte line 61).toNat + 1), valL (l.take (digN l))))) := by
  unfold recStep
  rw [if_neg h]
  refine ⟨fun h1 => if_pos h1, fun h1 line hl => ?_⟩
  rw [if_neg h1, ← hl]
  refine ⟨fun h2 => if_pos h2, fun h2 h3 => ?_, fun h2 h3 => ?_⟩
  · dsimp only; rw [if_neg h2, if_pos h3]
  · dsimp only; rw [if_neg h2, if_neg (by rw [h3]; simp)]
theorem slice_str (S : ByteArray) (a b : Nat) (hab : a + 1 ≤ b) (hb : b ≤ S.size) (w : World) :
    (Instr.slice 9 (.string S) (some (.int .i64 ((a : Int) + 1))) (some (.int .i64 (b : Int))) none).run Tryz.prog w = .ok (.string (S.extract (a + 1) b)) w := by
  have fl := Tryz.underlying9
  have h1 : (a : Int) + 1 ≤ (b : Int) := by omega
  have h2 : (b : Int) ≤ (S.size : Int) := by omega
  have h3 : (0 : Int) ≤ (a : Int) + 1 := by omega
  have h4 : ((a : Int) + 1).toNat = a + 1 := by omega
  simp [go_sem, Instr.slice, Instr.sliceBounds, Result.andThen, h1, h2, h3, h4]
theorem slice_to_str (S : ByteArray) (b : Nat) (hb : b ≤ S.size) (w : World) :
    (Instr.slice 9 (.string S) none (some (.int .i64 (b : Int))) none).run Tryz.prog w = .ok (.string (str (S.data.toList.take b))) w := by
  have fl := Tryz.underlying9
  have h2 : (b : Int) ≤ (S.size : Int) := by omega
  have e : S.extract 0 b = str (S.data.toList.take b) := by rw [ext_str, List.drop_zero, Nat.sub_zero]
  rw [← e]
  simp [go_sem, Instr.slice, Instr.sliceBounds, Result.andThen, h2]
theorem slice_from_str (S : ByteArray) (a : Nat) (ha : a + 1 ≤ S.size) (w : World) :
    (Instr.slice 9 (.string S) (some (.int .i64 ((a : Int) + 1))) none none).run Tryz.prog w = .ok (.string (str (S.data.toList.drop (a + 1)))) w := by
  have fl := Tryz.underlying9
  have h2 : (a : Int) + 1 ≤ (S.size : Int) := by omega
  have h3 : (0 : Int) ≤ (a : Int) + 1 := by omega
  have h4 : ((a : Int) + 1).toNat = a + 1 := by omega
  rw [← ext_end]
  simp [go_sem, Instr.slice, Instr.sliceBounds, Result.andThen, h2, h3, h4]
/-- what a reader of records leaves: its records in a row of its own, or the error -/
def RecsPost (R T : Int) (l : List UInt8) (w : World) (e : Ending) (w' : World) : Prop :=
  ∃ p c, e = .returned (.tuple #[.slice p (recsD R T l).1.length c, .int .i64 (recsD R T l).2]) ∧ (recsD R T l).1.length ≤ c ∧ c ≤ maxLen ∧ RecsAt w' p (recsD R T l).1.length (recsD R T l).1 ∧ Below w.heap.size w w'
theorem recs_err (R T : Int) (l : List UInt8) (w w' : World) (er : Int) (h : recsD R T l = ([], er)) (hb : Below w.heap.size w w') : RecsPost R T l w (.returned (.tuple #[.slice none 0 0, .int .i64 er])) w' :=
  ⟨none, 0, by rw [h]; rfl, by rw [h]; exact Nat.le_refl _, by decide, by rw [h]; exact ⟨rfl, fun h => absurd h (by simp)⟩, hb⟩
/-- .. and where they are: in a block that was not there before -/
def RecsPostN (R T : Int) (l : List UInt8) (w : World) (e : Ending) (w' : World) : Prop :=
  ∃ p c, e = .returned (.tuple #[.slice p (recsD R T l).1.length c, .int .i64 (recsD R T l).2]) ∧ (recsD R T l).1.length ≤ c ∧ c ≤ maxLen ∧ RecsAt w' p (recsD R T l).1.length (recsD R T l).1 ∧ Below w.heap.size w w' ∧ ∀ a, p = some a → w.heap.size ≤ a.block
theorem recsN_err (R T : Int) (l : List UInt8) (w w' : World) (er : Int) (h : recsD R T l = ([], er)) (hb : Below w.heap.size w w') : RecsPostN R T l w (.returned (.tuple #[.slice none 0 0, .int .i64 er])) w' :=
  ⟨none, 0, by rw [h]; rfl, by rw [h]; exact Nat.le_refl _, by decide, by rw [h]; exact ⟨rfl, fun h => absurd h (by simp)⟩, hb, fun a ha => by cases ha⟩
theorem own_at {w : World} {base : Nat} {e : TypeId} {k : Nat} {v : Value} {n : Nat} {xs : List Value} (h : w.ownsRow base e k v n xs) : ∀ p m c, v = .slice p m c → ∀ a, p = some a → base ≤ a.block := by
  intro p m c hv a ha
  rcases h.2 with ⟨h1, _⟩ | ⟨g, cap, cur, h1, h2, _⟩
  · rw [hv] at h1
    cases h1
    cases ha
  · rw [hv] at h1
    cases h1
    cases ha
    exact h2
set_option maxHeartbeats 16000000 in
theorem records_new (p0 : Option Addr) (n0 c0 : Nat) (bs : List UInt8) (w : World) (hn : bs.length = n0) (hc : n0 ≤ c0) (hm : n0 ≤ 1000000000000) (h : BAt w p0 n0 bs) :
    Calls Tryz.prog 36 #[.slice p0 n0 c0] w (RecsPostN 5 9 bs w) := by
  have cv := conv_at h hn _ _ _ Tryz.underlying22 Tryz.underlying5 Tryz.underlying9 c0
  have HN := Lib.hid hn
  obtain ⟨i0, hi, hz0, hz1, hz2⟩ := info_parts infoRec
  have HI := Lib.hid hi
  have HZ0 := Lib.hid hz0
  have HZ1 := Lib.hid hz1
  have HZ2 := Lib.hid hz2
  have mixed : Tryz.prog.follows .mixedOrders = true := by kernel_rfl
  clear h hn hi hz0 hz1 hz2
  go_enter Tryz.func36, Tryz.ntmps36
  go_wp2_with fail
  rw [show (⟨bs.toArray⟩ : ByteArray) = str bs from rfl]
  clear cv
  go_loopw [4, 5] (fun o s wr => ∃ (l : List UInt8) (acc : List (List UInt8 × List UInt8)), s = .string (str l) ∧ Hid (wr.ownsRow w.heap.size 53 2 o acc.length (flatR acc)) ∧ Hid (recsFrom 5 9 l acc = recsD 5 9 bs) ∧ Hid (acc.length + l.length ≤ n0) ∧ Hid (Below w.heap.size w wr)) (fun _ s _ => match s with | .string b => b.size | _ => 0)
  case atStart => exact ⟨bs, [], rfl, Lib.hid (World.ownsRow_nil _ _ _ _), Lib.hid rfl, Lib.hid (by rw [HN.out]; simp), Lib.hid (Below.refl _ _)⟩
  case round =>
    obtain ⟨l, acc, rfl, hown, hr, hlen, hB⟩ := hrel
    obtain ⟨S, hS⟩ : ∃ S, S = str l := ⟨_, rfl⟩
    rw [← hS]
    have HSL : Hid (S.data.toList = l) := Lib.hid (by rw [hS, str_data])
    have HSZ : Hid (S.size = l.length) := Lib.hid (by rw [hS, str_size])
    have HSS := Lib.hid hS
    clear hS
    by_cases hl0 : S.size = 0
    · have hl : l = [] := List.length_eq_zero_iff.1 (by rw [← HSZ.out]; exact hl0)
      have hG : Hid (recsD 5 9 bs = (acc, 0)) := Lib.hid (by rw [← hr.out, hl, recsFrom_nil])
      have hz : ¬ ((0 : Int) < (S.size : Int)) := by omega
      have hloc := own_at hown.out
      obtain ⟨p, c, rfl, h1, h2, h3⟩ := recs_own hown.out
      have H3 := Lib.hid (And.intro h1 (And.intro h2 h3))
      have HLOC := Lib.hid (hloc p _ c rfl)
      clear hl hl0 h1 h2 h3 hloc
      go_wp2
      go_ret2
      refine ⟨p, c, by rw [hG.out]; rfl, ?_, H3.out.2.1, ?_, hB.out, HLOC.out⟩
      · rw [hG.out]; exact H3.out.1
      · rw [hG.out]; exact H3.out.2.2
    · have hpos : (0 : Int) < (S.size : Int) := by omega
      have HNE : Hid (l ≠ []) := Lib.hid (fun e => by have := HSZ.out; rw [e] at this; exact hl0 this)
      have hsm : (S.size : Int) ≤ 1000000000000 := by have := HSZ.out; have := hlen.out; omega
      have HG : Hid (∀ er, recStep 5 9 l = .error er → recsD 5 9 bs = ([], er)) := Lib.hid (fun er he => by rw [← hr.out, recsFrom_step 5 9 l HNE.out, he])
      go_wp2_with fail
      go_loop [6] (fun i => ∃ (k : Nat), k ≤ S.size ∧ i = .int .i64 (k : Int) ∧ Hid (∀ j, j < k → isDig (l.getD j 0) = true)) (fun i => S.size - (RowKit.intOf i).toNat)
      case atStart => exact ⟨0, Nat.zero_le _, rfl, Lib.hid (fun j hj => absurd hj (by omega))⟩
      case round =>
        obtain ⟨k, hk, rfl, hd⟩ := hrel
        by_cases hlt : k < S.size
        · have hx : Hid (S[k] = l.getD k 0) := Lib.hid (by rw [← HSL.out, idx_list S k hlt])
          obtain ⟨C, hC⟩ : ∃ C : Nat, (S[k]).toNat = C := ⟨_, rfl⟩
          have hC2 : ((S[k]).toNat : Int) = (C : Int) := by rw [hC]
          have hC3 : (C : Int) ≤ 255 := by have := (S[k]).toNat_lt; omega
          have HC : Hid ((l.getD k 0).toNat = C) := Lib.hid (by rw [← hx.out]; exact hC)
          clear hC
          have hltz : (k : Int) < (S.size : Int) := by omega
          by_cases g1 : (48 : Int) ≤ (C : Int)
          · by_cases g2 : (C : Int) ≤ 57
            · have HD : Hid (∀ j, j < k + 1 → isDig (l.getD j 0) = true) := Lib.hid (fun j hj => by
                rcases Nat.lt_succ_iff_lt_or_eq.1 hj with h | rfl
                · exact hd.out j h
                · simp only [isDig, decide_eq_true_eq, HC.out]; omega)
              go_wp2
              go_round
              case rel => exact ⟨k + 1, by omega, by go_num, HD⟩
              case measure => simp [RowKit.intOf]; omega
            · have HK : Hid (digN l = k) := Lib.hid (digN_is l k (by rw [← HSZ.out]; exact hk) hd.out (.inr (by simp only [isDig, HC.out, decide_eq_false_iff_not]; omega)))
              by_cases t1 : (k : Int) < 1
              · have HE := Lib.hid t1
                have E : Hid (recsD 5 9 bs = ([], 5)) := Lib.hid (HG.out 5 (by unfold recStep; rw [HK.out, if_pos (.inl (by omega))]))
                go_wp2
                go_ret2
                exact recsN_err 5 9 bs w _ 5 E.out hB.out
              · by_cases t2 : (7 : Int) < (k : Int)
                · have HE := Lib.hid t2
                  have E : Hid (recsD 5 9 bs = ([], 5)) := Lib.hid (HG.out 5 (by unfold recStep; rw [HK.out, if_pos (.inr (.inl (by omega)))]))
                  go_wp2
                  go_ret2
                  exact recsN_err 5 9 bs w _ 5 E.out hB.out
                · by_cases t3 : S[0] = 48
                  · have t3b : (((S[0]).toNat : Int) == 48) = true := by rw [t3]; rfl
                    have HE : Hid (l.getD 0 0 = 48) := Lib.hid (by rw [← HSL.out, idx_list S 0 (by omega)]; exact t3)
                    clear t3
                    have E : Hid (recsD 5 9 bs = ([], 5)) := Lib.hid (HG.out 5 (by unfold recStep; rw [HK.out, if_pos (.inr (.inr (.inl HE.out)))]))
                    go_wp2
                    go_ret2
                    exact recsN_err 5 9 bs w _ 5 E.out hB.out
                  · have t3b : (((S[0]).toNat : Int) == 48) = false := by
                      have : ¬ (S[0]).toNat = 48 := fun e => t3 (UInt8.toNat_inj.1 e)
                      rw [beq_eq_false_iff_ne]; omega
                    have HE0 : Hid (l.getD 0 0 ≠ 48) := Lib.hid (by rw [← HSL.out, idx_list S 0 (by omega)]; exact t3)
                    have t4 : ((k : Int) == (S.size : Int)) = false := by rw [beq_eq_false_iff_ne]; omega
                    clear t3
                    by_cases t5 : (C : Int) = 32
                    · have t5b : ((C : Int) != 32) = false := by simp; omega
                      have HE5 : Hid (l.getD k 0 = 32) := Lib.hid (UInt8.toNat_inj.1 (by rw [HC.out]; show C = 32; omega))
                      clear t5
                      have HOK : Hid (¬ (digN l < 1 ∨ 7 < digN l ∨ l.getD 0 0 = 48 ∨ digN l = l.length ∨ l.getD (digN l) 0 ≠ 32)) := Lib.hid (by
                        rw [HK.out]
                        rintro (e | e | e | e | e)
                        · omega
                        · omega
                        · exact HE0.out e
                        · have := HSZ.out; omega
                        · exact e HE5.out)
                      obtain ⟨N, hN⟩ : ∃ N, N = valL (l.take k) := ⟨_, rfl⟩
                      have hdt := digN_take l
                      have HWV : Hid (wholeV (wholeD (S.extract 0 k).data.toList) = .tuple #[.int .i64 (N : Int), .bool true]) := Lib.hid (by
                        rw [ext_data, HSL.out, List.drop_zero, Nat.sub_zero]
                        have h1 : (l.take k).length = k := by rw [List.length_take]; have := HSZ.out; omega
                        unfold wholeD
                        rw [if_neg (by rw [h1]; omega), if_pos (List.all_eq_true.2 (by rw [← HK.out]; exact hdt.2)), ← hN]
                        rfl)
                      obtain ⟨q1, q2⟩ := recStep_go (R := 5) (T := 9) HOK.out
                      rw [HK.out, ← hN] at q1 q2
                      have HQ1 := Lib.hid q1
                      have HQ2 := Lib.hid q2
                      have HNN := Lib.hid hN
                      clear hN hdt q1 q2
                      have hkz : (k : Int) ≤ (S.size : Int) := by omega
                      go_wp2_with fail
                      refine (whole_any (S.extract 0 k) wr).mono ?_
                      rintro e w' ⟨rfl, rfl⟩
                      rw [HWV.out]
                      by_cases u1 : (S.size : Int) < (N : Int)
                      · have HE := Lib.hid u1
                        have E : Hid (recsD 5 9 bs = ([], 5)) := Lib.hid (HG.out 5 (by exact HQ1.out (.inl (by have := HSZ.out; omega))))
                        go_wp2
                        go_ret2
                        exact recsN_err 5 9 bs w _ 5 E.out hB.out
                      · by_cases u2 : (N : Int) < (k : Int) + 4
                        · have HE := Lib.hid u2
                          have E : Hid (recsD 5 9 bs = ([], 5)) := Lib.hid (HG.out 5 (by exact HQ1.out (.inr (.inl (by omega)))))
                          go_wp2
                          go_ret2
                          exact recsN_err 5 9 bs w _ 5 E.out hB.out
                        · obtain ⟨M, hM⟩ : ∃ M, N = M + 1 := ⟨N - 1, by omega⟩
                          subst hM
                          have hMS : M < S.size := by omega
                          have hkM : k + 1 ≤ M := by omega
                          have hkMz : (k : Int) + 1 ≤ (M : Int) := by omega
                          have hMSz : (M : Int) ≤ (S.size : Int) := by omega
                          have hMa : ((M + 1 : Nat) : Int) - 1 = (M : Int) := by omega
                          have HX10 : Hid (l.getD M 0 = S[M]) := Lib.hid (by rw [← HSL.out, idx_list S M hMS])
                          by_cases u3 : S[M] = 10
                          · have u3b : (((S[M]).toNat : Int) != 10) = false := by rw [u3]; rfl
                            have HU3 : Hid (¬ (l.length < M + 1 ∨ M + 1 < k + 4 ∨ l.getD (M + 1 - 1) 0 ≠ 10)) := Lib.hid (by
                              rintro (e | e | e)
                              · have := HSZ.out; omega
                              · omega
                              · exact e (by rw [Nat.add_sub_cancel, HX10.out, u3]))
                            clear u3
                            have sl := slice_str S k M hkM (Nat.le_of_lt hMS)
                            obtain ⟨X, hX⟩ : ∃ X, S.extract (k + 1) M = X := ⟨_, rfl⟩
                            rw [hX] at sl
                            have HXL : Hid (X.data.toList = (l.drop (k + 1)).take (M + 1 - 1 - (k + 1))) := Lib.hid (by rw [← hX, ext_data, HSL.out, Nat.add_sub_cancel])
                            have HQ := Lib.hid (HQ2.out HU3.out X.data.toList HXL.out)
                            have hXs : (X.size : Int) ≤ 1000000000000 := by
                              have h1 := size_of X
                              rw [HXL.out, List.length_take, List.length_drop] at h1
                              omega
                            go_wp2_with fail
                            go_loop [10, 11] (fun a b => ∃ (i : Nat), i ≤ X.size ∧ a = .int .i64 (-1) ∧ b = .int .i64 (i : Int) ∧ Hid (∀ j, j < i → X.data.toList.getD j 0 ≠ 61)) (fun _ b => X.size - (RowKit.intOf b).toNat)
                            case atStart => exact ⟨0, Nat.zero_le _, rfl, rfl, Lib.hid (fun j hj => absurd hj (by omega))⟩
                            case round =>
                              obtain ⟨i, hi, rfl, rfl, hno⟩ := hrel
                              by_cases hil : i < X.size
                              · have hx1 : Hid (X[i] = X.data.toList.getD i 0) := Lib.hid (idx_list X i hil).symm
                                by_cases g61 : X[i] = 61
                                · have b61 : (((X[i]).toNat : Int) == 61) = true := by rw [g61]; rfl
                                  have HIX : Hid (indexByte X.data.toList 61 = i) := Lib.hid (index_is _ 61 i (by rw [← size_of]; exact hil) hno.out (by rw [← hx1.out]; exact g61))
                                  clear g61
                                  by_cases i1 : (i : Int) < 1
                                  · have HE := Lib.hid i1
                                    have E : Hid (recsD 5 9 bs = ([], 5)) := Lib.hid (HG.out 5 (by exact HQ.out.1 (by rw [HIX.out]; exact HE.out)))
                                    go_wp2
                                    go_ret2
                                    exact recsN_err 5 9 bs w _ 5 E.out hB.out
                                  · have HI1 : Hid (1 ≤ indexByte X.data.toList 61) := Lib.hid (by rw [HIX.out]; omega)
                                    cases ht : textD X.data.toList with
                                    | false =>
                                      have HTX : Hid (recStep 5 9 l = .error 9) := Lib.hid (by first | exact HQ.out.2.1 HI1.out ht | exact HQ.out.2.1 (Int.not_lt.2 HI1.out) ht)
                                      go_wp2_with fail
                                      refine (rtext_any X wr (by omega)).mono ?_
                                      rw [ht]
                                      rintro e w' ⟨rfl, rfl⟩
                                      have E : Hid (recsD 5 9 bs = ([], 9)) := Lib.hid (HG.out 9 (by exact HTX.out))
                                      go_wp2
                                      go_ret2
                                      exact recsN_err 5 9 bs w _ 9 E.out hB.out
                                    | true =>
                                      have hst : recStep 5 9 l = .ok (X.data.toList.take i, X.data.toList.drop (i + 1), M + 1) := by
                                        have h1 : recStep 5 9 l = .ok (X.data.toList.take (indexByte X.data.toList 61).toNat, X.data.toList.drop ((indexByte X.data.toList 61).toNat + 1), M + 1) := by first | exact HQ.out.2.2 HI1.out ht | exact HQ.out.2.2 (Int.not_lt.2 HI1.out) ht
                                        rw [HIX.out, Int.toNat_natCast] at h1
                                        exact h1
                                      have s2 := slice_from_str S M hMS
                                      rw [HSL.out] at s2
                                      obtain ⟨kk, hkk⟩ : ∃ kk, X.data.toList.take i = kk := ⟨_, rfl⟩
                                      obtain ⟨vv, hvv⟩ : ∃ vv, X.data.toList.drop (i + 1) = vv := ⟨_, rfl⟩
                                      rw [hkk] at hst
                                      rw [hvv] at hst
                                      have HEK : Hid (X.extract 0 i = str kk ∧ X.extract (i + 1) X.size = str vv) := Lib.hid ⟨by rw [ext_str, List.drop_zero, Nat.sub_zero, hkk], by rw [ext_end, hvv]⟩
                                      have HST : Hid (recsFrom 5 9 (l.drop (M + 1)) (acc ++ [(kk, vv)]) = recsD 5 9 bs) := Lib.hid (by rw [← hr.out, recsFrom_step 5 9 l HNE.out, hst])
                                      clear hkk hvv hst
                                      go_wp2_with fail
                                      refine (rtext_any X wr (by omega)).mono ?_
                                      rw [ht]
                                      rintro e w' ⟨rfl, rfl⟩
                                      have HOWN : Hid (World.ownsRow (wr.drew.alloc (.cells #[.string (X.extract 0 i), .string (X.extract (i + 1) X.size)] 53)) w.heap.size 53 2 u4 acc.length (flatR acc)) := Lib.hid (World.ownsRow.alloc (w := wr.drew) hown.out _)
                                      have HBD : Hid (Below w.heap.size w (wr.drew.alloc (.cells #[.string (X.extract 0 i), .string (X.extract (i + 1) X.size)] 53))) := Lib.hid ((below_drewN hB.out 1).alloc hB.out.size _)
                                      have HCL : Hid (∀ j u, ([Value.string (X.extract 0 i), .string (X.extract (i + 1) X.size)] : List Value)[j]? = some u → (wr.drew.alloc (.cells #[.string (X.extract 0 i), .string (X.extract (i + 1) X.size)] 53)).cell? ((⟨wr.heap.size, 0, none⟩ : Addr).add j) = some u) := Lib.hid (fun j u hj => by
                                        obtain ⟨g0, g1⟩ := cells2 wr.drew 53 (.string (X.extract 0 i)) (.string (X.extract (i + 1) X.size))
                                        match j, hj with
                                        | 0, hj => cases hj; exact g0
                                        | 1, hj => cases hj; exact g1
                                        | j + 2, hj => simp at hj)
                                      have HAL : Hid (acc.length + 1 ≤ 1000000000001) := Lib.hid (by have := hlen.out; omega)
                                      have HSZ1 : Hid (w.heap.size ≤ (wr.drew.alloc (.cells #[.string (X.extract 0 i), .string (X.extract (i + 1) X.size)] 53)).heap.size) := Lib.hid HBD.out.size
                                      have q1 : (0 : Int) ≤ (i : Int) := by omega
                                      have q2 : (i : Int) ≤ (X.size : Int) := by omega
                                      have q3 : (0 : Int) ≤ (i : Int) + 1 := by omega
                                      have q4 : (i : Int) + 1 ≤ (X.size : Int) := by omega
                                      have q5 : IntKind.i64.wrap ((i : Int) + 1) = (i : Int) + 1 := by rw [IntKind.wrap_i64]; omega
                                      go_wp2_with fail
                                      go_region_held_law (fun w' => w'.os = w'.os) (rfl) (first
                                        | (refine step_append_own (by kernel_rfl) _ _ 73 rfl w.heap.size 53 i0 (.agg #[.string ⟨#[]⟩, .string ⟨#[]⟩]) 2 32 Tryz.underlying73 HI.out HZ0.out HZ1.out HZ2.out rfl (by decide) u4 acc.length (flatR acc) rfl HOWN.out ⟨wr.heap.size, 0, none⟩ 1 1 [.string (X.extract 0 i), .string (X.extract (i + 1) X.size)] rfl rfl HCL.out ?_ ?_ ?_ HSZ1.out ?_
                                           (intro u hu; rcases List.mem_cons.1 hu with rfl | hu; rfl; rcases List.mem_cons.1 hu with rfl | hu; rfl; cases hu)
                                           (have := HAL.out; unfold maxLen; omega)
                                           (have := HAL.out; omega)
                                           intro v' w1 hown' hgrow _)
                                        | fail)
                                      have HOW1 : Hid (w1.ownsRow w.heap.size 53 2 v' (acc ++ [(kk, vv)]).length (flatR (acc ++ [(kk, vv)]))) := Lib.hid (by
                                        rw [flatR_snoc, List.length_append, ← HEK.out.1, ← HEK.out.2]; exact hown')
                                      have HBW : Hid (Below w.heap.size w w1) := Lib.hid (HBD.out.grown hgrow HBD.out.size (fun b hb => by
                                        rcases HOWN.out.2 with ⟨rfl, _⟩ | ⟨g, cap, cur, rfl, hb2, _⟩
                                        · cases hb
                                        · cases hb; exact hb2))
                                      clear hown' hgrow
                                      simp only [List.getElem_toArray, List.getElem_cons_succ, List.getElem_cons_zero]
                                      simp only [List.setIfInBounds_toArray, List.set_cons_succ, List.set_cons_zero]
                                      go_wp2_with fail
                                      go_roundw
                                      case rel => exact ⟨l.drop (M + 1), acc ++ [(kk, vv)], rfl, HOW1, HST, Lib.hid (by have h1 := HSZ.out; have h2 := hlen.out; rw [List.length_append, List.length_drop]; simp only [List.length_cons, List.length_nil]; omega), HBW⟩
                                      case measure => have h1 := HSZ.out; simp only [str_size, List.length_drop]; omega
                                · have b61 : (((X[i]).toNat : Int) == 61) = false := by
                                    have : ¬ (X[i]).toNat = 61 := fun e => g61 (UInt8.toNat_inj.1 e)
                                    rw [beq_eq_false_iff_ne]; omega
                                  have HNX : Hid (∀ j, j < i + 1 → X.data.toList.getD j 0 ≠ 61) := Lib.hid (fun j hj => by
                                    rcases Nat.lt_succ_iff_lt_or_eq.1 hj with h | rfl
                                    · exact hno.out j h
                                    · rw [← hx1.out]; exact g61)
                                  clear g61
                                  go_wp2
                                  go_round
                                  case rel => exact ⟨i + 1, by omega, rfl, by go_num, HNX⟩
                                  case measure => simp [RowKit.intOf]; omega
                              · have HE : Hid (indexByte X.data.toList 61 < 1) := Lib.hid (index_not _ 61 (fun j hj => hno.out j (by rw [← size_of] at hj; omega)))
                                have E : Hid (recsD 5 9 bs = ([], 5)) := Lib.hid (HG.out 5 (by exact HQ.out.1 HE.out))
                                go_wp2
                                go_ret2
                                exact recsN_err 5 9 bs w _ 5 E.out hB.out
                          · have u3b : (((S[M]).toNat : Int) != 10) = true := by
                              have : ¬ (S[M]).toNat = 10 := fun e => u3 (UInt8.toNat_inj.1 e)
                              simp; omega
                            have HU3 : Hid (l.getD (M + 1 - 1) 0 ≠ 10) := Lib.hid (by rw [Nat.add_sub_cancel, HX10.out]; exact u3)
                            clear u3
                            have E : Hid (recsD 5 9 bs = ([], 5)) := Lib.hid (HG.out 5 (by exact HQ1.out (.inr (.inr HU3.out))))
                            go_wp2
                            go_ret2
                            exact recsN_err 5 9 bs w _ 5 E.out hB.out
                    · have t5b : ((C : Int) != 32) = true := by simp; omega
                      have HE5 : Hid (l.getD k 0 ≠ 32) := Lib.hid (fun e => t5 (by have := congrArg UInt8.toNat e; rw [HC.out] at this; rw [this]; rfl))
                      clear t5
                      have E : Hid (recsD 5 9 bs = ([], 5)) := Lib.hid (HG.out 5 (by unfold recStep; rw [HK.out, if_pos (.inr (.inr (.inr (.inr HE5.out))))]))
                      go_wp2
                      go_ret2
                      exact recsN_err 5 9 bs w _ 5 E.out hB.out
          · have HK : Hid (digN l = k) := Lib.hid (digN_is l k (by rw [← HSZ.out]; exact hk) hd.out (.inr (by simp only [isDig, HC.out, decide_eq_false_iff_not]; omega)))
            by_cases t1 : (k : Int) < 1
            · have HE := Lib.hid t1
              have E : Hid (recsD 5 9 bs = ([], 5)) := Lib.hid (HG.out 5 (by unfold recStep; rw [HK.out, if_pos (.inl (by omega))]))
              go_wp2
              go_ret2
              exact recsN_err 5 9 bs w _ 5 E.out hB.out
            · by_cases t2 : (7 : Int) < (k : Int)
              · have HE := Lib.hid t2
                have E : Hid (recsD 5 9 bs = ([], 5)) := Lib.hid (HG.out 5 (by unfold recStep; rw [HK.out, if_pos (.inr (.inl (by omega)))]))
                go_wp2
                go_ret2
                exact recsN_err 5 9 bs w _ 5 E.out hB.out
              · by_cases t3 : S[0] = 48
                · have t3b : (((S[0]).toNat : Int) == 48) = true := by rw [t3]; rfl
                  have HE : Hid (l.getD 0 0 = 48) := Lib.hid (by rw [← HSL.out, idx_list S 0 (by omega)]; exact t3)
                  clear t3
                  have E : Hid (recsD 5 9 bs = ([], 5)) := Lib.hid (HG.out 5 (by unfold recStep; rw [HK.out, if_pos (.inr (.inr (.inl HE.out)))]))
                  go_wp2
                  go_ret2
                  exact recsN_err 5 9 bs w _ 5 E.out hB.out
                · have t3b : (((S[0]).toNat : Int) == 48) = false := by
                    have : ¬ (S[0]).toNat = 48 := fun e => t3 (UInt8.toNat_inj.1 e)
                    rw [beq_eq_false_iff_ne]; omega
                  have HE0 : Hid (l.getD 0 0 ≠ 48) := Lib.hid (by rw [← HSL.out, idx_list S 0 (by omega)]; exact t3)
                  have t4 : ((k : Int) == (S.size : Int)) = false := by rw [beq_eq_false_iff_ne]; omega
                  clear t3
                  by_cases t5 : (C : Int) = 32
                  · have t5b : ((C : Int) != 32) = false := by simp; omega
                    have HE5 : Hid (l.getD k 0 = 32) := Lib.hid (UInt8.toNat_inj.1 (by rw [HC.out]; show C = 32; omega))
                    clear t5
                    have HOK : Hid (¬ (digN l < 1 ∨ 7 < digN l ∨ l.getD 0 0 = 48 ∨ digN l = l.length ∨ l.getD (digN l) 0 ≠ 32)) := Lib.hid (by
                      rw [HK.out]
                      rintro (e | e | e | e | e)
                      · omega
                      · omega
                      · exact HE0.out e
                      · have := HSZ.out; omega
                      · exact e HE5.out)
                    obtain ⟨N, hN⟩ : ∃ N, N = valL (l.take k) := ⟨_, rfl⟩
                    have hdt := digN_take l
                    have HWV : Hid (wholeV (wholeD (S.extract 0 k).data.toList) = .tuple #[.int .i64 (N : Int), .bool true]) := Lib.hid (by
                      rw [ext_data, HSL.out, List.drop_zero, Nat.sub_zero]
                      have h1 : (l.take k).length = k := by rw [List.length_take]; have := HSZ.out; omega
                      unfold wholeD
                      rw [if_neg (by rw [h1]; omega), if_pos (List.all_eq_true.2 (by rw [← HK.out]; exact hdt.2)), ← hN]
                      rfl)
                    obtain ⟨q1, q2⟩ := recStep_go (R := 5) (T := 9) HOK.out
                    rw [HK.out, ← hN] at q1 q2
                    have HQ1 := Lib.hid q1
                    have HQ2 := Lib.hid q2
                    have HNN := Lib.hid hN
                    clear hN hdt q1 q2
                    have hkz : (k : Int) ≤ (S.size : Int) := by omega
                    go_wp2_with fail
                    refine (whole_any (S.extract 0 k) wr).mono ?_
                    rintro e w' ⟨rfl, rfl⟩
                    rw [HWV.out]
                    by_cases u1 : (S.size : Int) < (N : Int)
                    · have HE := Lib.hid u1
                      have E : Hid (recsD 5 9 bs = ([], 5)) := Lib.hid (HG.out 5 (by exact HQ1.out (.inl (by have := HSZ.out; omega))))
                      go_wp2
                      go_ret2
                      exact recsN_err 5 9 bs w _ 5 E.out hB.out
                    · by_cases u2 : (N : Int) < (k : Int) + 4
                      · have HE := Lib.hid u2
                        have E : Hid (recsD 5 9 bs = ([], 5)) := Lib.hid (HG.out 5 (by exact HQ1.out (.inr (.inl (by omega)))))
                        go_wp2
                        go_ret2
                        exact recsN_err 5 9 bs w _ 5 E.out hB.out
                      · obtain ⟨M, hM⟩ : ∃ M, N = M + 1 := ⟨N - 1, by omega⟩
                        subst hM
                        have hMS : M < S.size := by omega
                        have hkM : k + 1 ≤ M := by omega
                        have hkMz : (k : Int) + 1 ≤ (M : Int) := by omega
                        have hMSz : (M : Int) ≤ (S.size : Int) := by omega
                        have hMa : ((M + 1 : Nat) : Int) - 1 = (M : Int) := by omega
                        have HX10 : Hid (l.getD M 0 = S[M]) := Lib.hid (by rw [← HSL.out, idx_list S M hMS])
                        by_cases u3 : S[M] = 10
                        · have u3b : (((S[M]).toNat : Int) != 10) = false := by rw [u3]; rfl
                          have HU3 : Hid (¬ (l.length < M + 1 ∨ M + 1 < k + 4 ∨ l.getD (M + 1 - 1) 0 ≠ 10)) := Lib.hid (by
                            rintro (e | e | e)
                            · have := HSZ.out; omega
                            · omega
                            · exact e (by rw [Nat.add_sub_cancel, HX10.out, u3]))
                          clear u3
                          have sl := slice_str S k M hkM (Nat.le_of_lt hMS)
                          obtain ⟨X, hX⟩ : ∃ X, S.extract (k + 1) M = X := ⟨_, rfl⟩
                          rw [hX] at sl
                          have HXL : Hid (X.data.toList = (l.drop (k + 1)).take (M + 1 - 1 - (k + 1))) := Lib.hid (by rw [← hX, ext_data, HSL.out, Nat.add_sub_cancel])
                          have HQ := Lib.hid (HQ2.out HU3.out X.data.toList HXL.out)
                          have hXs : (X.size : Int) ≤ 1000000000000 := by
                            have h1 := size_of X
                            rw [HXL.out, List.length_take, List.length_drop] at h1
                            omega
                          go_wp2_with fail
                          go_loop [10, 11] (fun a b => ∃ (i : Nat), i ≤ X.size ∧ a = .int .i64 (-1) ∧ b = .int .i64 (i : Int) ∧ Hid (∀ j, j < i → X.data.toList.getD j 0 ≠ 61)) (fun _ b => X.size - (RowKit.intOf b).toNat)
                          case atStart => exact ⟨0, Nat.zero_le _, rfl, rfl, Lib.hid (fun j hj => absurd hj (by omega))⟩
                          case round =>
                            obtain ⟨i, hi, rfl, rfl, hno⟩ := hrel
                            by_cases hil : i < X.size
                            · have hx1 : Hid (X[i] = X.data.toList.getD i 0) := Lib.hid (idx_list X i hil).symm
                              by_cases g61 : X[i] = 61
                              · have b61 : (((X[i]).toNat : Int) == 61) = true := by rw [g61]; rfl
                                have HIX : Hid (indexByte X.data.toList 61 = i) := Lib.hid (index_is _ 61 i (by rw [← size_of]; exact hil) hno.out (by rw [← hx1.out]; exact g61))
                                clear g61
                                by_cases i1 : (i : Int) < 1
                                · have HE := Lib.hid i1
                                  have E : Hid (recsD 5 9 bs = ([], 5)) := Lib.hid (HG.out 5 (by exact HQ.out.1 (by rw [HIX.out]; exact HE.out)))
                                  go_wp2
                                  go_ret2
                                  exact recsN_err 5 9 bs w _ 5 E.out hB.out
                                · have HI1 : Hid (1 ≤ indexByte X.data.toList 61) := Lib.hid (by rw [HIX.out]; omega)
                                  cases ht : textD X.data.toList with
                                  | false =>
                                    have HTX : Hid (recStep 5 9 l = .error 9) := Lib.hid (by first | exact HQ.out.2.1 HI1.out ht | exact HQ.out.2.1 (Int.not_lt.2 HI1.out) ht)
                                    go_wp2_with fail
                                    refine (rtext_any X wr (by omega)).mono ?_
                                    rw [ht]
                                    rintro e w' ⟨rfl, rfl⟩
                                    have E : Hid (recsD 5 9 bs = ([], 9)) := Lib.hid (HG.out 9 (by exact HTX.out))
                                    go_wp2
                                    go_ret2
                                    exact recsN_err 5 9 bs w _ 9 E.out hB.out
                                  | true =>
                                    have hst : recStep 5 9 l = .ok (X.data.toList.take i, X.data.toList.drop (i + 1), M + 1) := by
                                      have h1 : recStep 5 9 l = .ok (X.data.toList.take (indexByte X.data.toList 61).toNat, X.data.toList.drop ((indexByte X.data.toList 61).toNat + 1), M + 1) := by first | exact HQ.out.2.2 HI1.out ht | exact HQ.out.2.2 (Int.not_lt.2 HI1.out) ht
                                      rw [HIX.out, Int.toNat_natCast] at h1
                                      exact h1
                                    have s2 := slice_from_str S M hMS
                                    rw [HSL.out] at s2
                                    obtain ⟨kk, hkk⟩ : ∃ kk, X.data.toList.take i = kk := ⟨_, rfl⟩
                                    obtain ⟨vv, hvv⟩ : ∃ vv, X.data.toList.drop (i + 1) = vv := ⟨_, rfl⟩
                                    rw [hkk] at hst
                                    rw [hvv] at hst
                                    have HEK : Hid (X.extract 0 i = str kk ∧ X.extract (i + 1) X.size = str vv) := Lib.hid ⟨by rw [ext_str, List.drop_zero, Nat.sub_zero, hkk], by rw [ext_end, hvv]⟩
                                    have HST : Hid (recsFrom 5 9 (l.drop (M + 1)) (acc ++ [(kk, vv)]) = recsD 5 9 bs) := Lib.hid (by rw [← hr.out, recsFrom_step 5 9 l HNE.out, hst])
                                    clear hkk hvv hst
                                    go_wp2_with fail
                                    refine (rtext_any X wr (by omega)).mono ?_
                                    rw [ht]
                                    rintro e w' ⟨rfl, rfl⟩
                                    have HOWN : Hid (World.ownsRow (wr.drew.alloc (.cells #[.string (X.extract 0 i), .string (X.extract (i + 1) X.size)] 53)) w.heap.size 53 2 u4 acc.length (flatR acc)) := Lib.hid (World.ownsRow.alloc (w := wr.drew) hown.out _)
                                    have HBD : Hid (Below w.heap.size w (wr.drew.alloc (.cells #[.string (X.extract 0 i), .string (X.extract (i + 1) X.size)] 53))) := Lib.hid ((below_drewN hB.out 1).alloc hB.out.size _)
                                    have HCL : Hid (∀ j u, ([Value.string (X.extract 0 i), .string (X.extract (i + 1) X.size)] : List Value)[j]? = some u → (wr.drew.alloc (.cells #[.string (X.extract 0 i), .string (X.extract (i + 1) X.size)] 53)).cell? ((⟨wr.heap.size, 0, none⟩ : Addr).add j) = some u) := Lib.hid (fun j u hj => by
                                      obtain ⟨g0, g1⟩ := cells2 wr.drew 53 (.string (X.extract 0 i)) (.string (X.extract (i + 1) X.size))
                                      match j, hj with
                                      | 0, hj => cases hj; exact g0
                                      | 1, hj => cases hj; exact g1
                                      | j + 2, hj => simp at hj)
                                    have HAL : Hid (acc.length + 1 ≤ 1000000000001) := Lib.hid (by have := hlen.out; omega)
                                    have HSZ1 : Hid (w.heap.size ≤ (wr.drew.alloc (.cells #[.string (X.extract 0 i), .string (X.extract (i + 1) X.size)] 53)).heap.size) := Lib.hid HBD.out.size
                                    have q1 : (0 : Int) ≤ (i : Int) := by omega
                                    have q2 : (i : Int) ≤ (X.size : Int) := by omega
                                    have q3 : (0 : Int) ≤ (i : Int) + 1 := by omega
                                    have q4 : (i : Int) + 1 ≤ (X.size : Int) := by omega
                                    have q5 : IntKind.i64.wrap ((i : Int) + 1) = (i : Int) + 1 := by rw [IntKind.wrap_i64]; omega
                                    go_wp2_with fail
                                    go_region_held_law (fun w' => w'.os = w'.os) (rfl) (first
                                      | (refine step_append_own (by kernel_rfl) _ _ 73 rfl w.heap.size 53 i0 (.agg #[.string ⟨#[]⟩, .string ⟨#[]⟩]) 2 32 Tryz.underlying73 HI.out HZ0.out HZ1.out HZ2.out rfl (by decide) u4 acc.length (flatR acc) rfl HOWN.out ⟨wr.heap.size, 0, none⟩ 1 1 [.string (X.extract 0 i), .string (X.extract (i + 1) X.size)] rfl rfl HCL.out ?_ ?_ ?_ HSZ1.out ?_
                                         (intro u hu; rcases List.mem_cons.1 hu with rfl | hu; rfl; rcases List.mem_cons.1 hu with rfl | hu; rfl; cases hu)
                                         (have := HAL.out; unfold maxLen; omega)
                                         (have := HAL.out; omega)
                                         intro v' w1 hown' hgrow _)
                                      | fail)
                                    have HOW1 : Hid (w1.ownsRow w.heap.size 53 2 v' (acc ++ [(kk, vv)]).length (flatR (acc ++ [(kk, vv)]))) := Lib.hid (by
                                      rw [flatR_snoc, List.length_append, ← HEK.out.1, ← HEK.out.2]; exact hown')
                                    have HBW : Hid (Below w.heap.size w w1) := Lib.hid (HBD.out.grown hgrow HBD.out.size (fun b hb => by
                                      rcases HOWN.out.2 with ⟨rfl, _⟩ | ⟨g, cap, cur, rfl, hb2, _⟩
                                      · cases hb
                                      · cases hb; exact hb2))
                                    clear hown' hgrow
                                    simp only [List.getElem_toArray, List.getElem_cons_succ, List.getElem_cons_zero]
                                    simp only [List.setIfInBounds_toArray, List.set_cons_succ, List.set_cons_zero]
                                    go_wp2_with fail
                                    go_roundw
                                    case rel => exact ⟨l.drop (M + 1), acc ++ [(kk, vv)], rfl, HOW1, HST, Lib.hid (by have h1 := HSZ.out; have h2 := hlen.out; rw [List.length_append, List.length_drop]; simp only [List.length_cons, List.length_nil]; omega), HBW⟩
                                    case measure => have h1 := HSZ.out; simp only [str_size, List.length_drop]; omega
                              · have b61 : (((X[i]).toNat : Int) == 61) = false := by
                                  have : ¬ (X[i]).toNat = 61 := fun e => g61 (UInt8.toNat_inj.1 e)
                                  rw [beq_eq_false_iff_ne]; omega
                                have HNX : Hid (∀ j, j < i + 1 → X.data.toList.getD j 0 ≠ 61) := Lib.hid (fun j hj => by
                                  rcases Nat.lt_succ_iff_lt_or_eq.1 hj with h | rfl
                                  · exact hno.out j h
                                  · rw [← hx1.out]; exact g61)
                                clear g61
                                go_wp2
                                go_round
                                case rel => exact ⟨i + 1, by omega, rfl, by go_num, HNX⟩
                                case measure => simp [RowKit.intOf]; omega
                            · have HE : Hid (indexByte X.data.toList 61 < 1) := Lib.hid (index_not _ 61 (fun j hj => hno.out j (by rw [← size_of] at hj; omega)))
                              have E : Hid (recsD 5 9 bs = ([], 5)) := Lib.hid (HG.out 5 (by exact HQ.out.1 HE.out))
                              go_wp2
                              go_ret2
                              exact recsN_err 5 9 bs w _ 5 E.out hB.out
                        · have u3b : (((S[M]).toNat : Int) != 10) = true := by
                            have : ¬ (S[M]).toNat = 10 := fun e => u3 (UInt8.toNat_inj.1 e)
                            simp; omega
                          have HU3 : Hid (l.getD (M + 1 - 1) 0 ≠ 10) := Lib.hid (by rw [Nat.add_sub_cancel, HX10.out]; exact u3)
                          clear u3
                          have E : Hid (recsD 5 9 bs = ([], 5)) := Lib.hid (HG.out 5 (by exact HQ1.out (.inr (.inr HU3.out))))
                          go_wp2
                          go_ret2
                          exact recsN_err 5 9 bs w _ 5 E.out hB.out
                  · have t5b : ((C : Int) != 32) = true := by simp; omega
                    have HE5 : Hid (l.getD k 0 ≠ 32) := Lib.hid (fun e => t5 (by have := congrArg UInt8.toNat e; rw [HC.out] at this; rw [this]; rfl))
                    clear t5
                    have E : Hid (recsD 5 9 bs = ([], 5)) := Lib.hid (HG.out 5 (by unfold recStep; rw [HK.out, if_pos (.inr (.inr (.inr (.inr HE5.out))))]))
                    go_wp2
                    go_ret2
                    exact recsN_err 5 9 bs w _ 5 E.out hB.out
        · have HK : Hid (digN l = k) := Lib.hid (digN_is l k (by rw [← HSZ.out]; exact hk) hd.out (.inl (by rw [← HSZ.out]; omega)))
          have hks : ¬ ((k : Int) < (S.size : Int)) := by omega
          by_cases t1 : (k : Int) < 1
          · have HE := Lib.hid t1
            have E : Hid (recsD 5 9 bs = ([], 5)) := Lib.hid (HG.out 5 (by unfold recStep; rw [HK.out, if_pos (.inl (by omega))]))
            go_wp2
            go_ret2
            exact recsN_err 5 9 bs w _ 5 E.out hB.out
          · by_cases t2 : (7 : Int) < (k : Int)
            · have HE := Lib.hid t2
              have E : Hid (recsD 5 9 bs = ([], 5)) := Lib.hid (HG.out 5 (by unfold recStep; rw [HK.out, if_pos (.inr (.inl (by omega)))]))
              go_wp2
              go_ret2
              exact recsN_err 5 9 bs w _ 5 E.out hB.out
            · have hkk : Hid (digN l = l.length) := Lib.hid (by rw [HK.out, ← HSZ.out]; omega)
              by_cases t3 : S[0] = 48
              · have t3b : (((S[0]).toNat : Int) == 48) = true := by rw [t3]; rfl
                clear t3
                have E : Hid (recsD 5 9 bs = ([], 5)) := Lib.hid (HG.out 5 (by unfold recStep; rw [if_pos (.inr (.inr (.inr (.inl hkk.out))))]))
                go_wp2
                go_ret2
                exact recsN_err 5 9 bs w _ 5 E.out hB.out
              · have t3b : (((S[0]).toNat : Int) == 48) = false := by
                  have : ¬ (S[0]).toNat = 48 := fun e => t3 (UInt8.toNat_inj.1 e)
                  rw [beq_eq_false_iff_ne]; omega
                have t4 : ((k : Int) == (S.size : Int)) = true := by simp; omega
                clear t3
                have E : Hid (recsD 5 9 bs = ([], 5)) := Lib.hid (HG.out 5 (by unfold recStep; rw [if_pos (.inr (.inr (.inr (.inl hkk.out))))]))
                go_wp2
                go_ret2
                exact recsN_err 5 9 bs w _ 5 E.out hB.out
theorem records_any (p0 : Option Addr) (n0 c0 : Nat) (bs : List UInt8) (w : World) (hn : bs.length = n0) (hc : n0 ≤ c0) (hm : n0 ≤ 1000000000000) (h : BAt w p0 n0 bs) :
    Calls Tryz.prog 36 #[.slice p0 n0 c0] w (RecsPost 5 9 bs w) :=
  (records_new p0 n0 c0 bs w hn hc hm h).mono fun e w' ⟨p, c, h1, h2, h3, h4, h5, _⟩ => ⟨p, c, h1, h2, h3, h4, h5⟩
end Go.Proofs.YtdjedimjhogdoaaGreatDoor.Rec
end
section
namespace Go.Proofs.YtdjedimjhogdoaaGreatDoor.Rec
open Go.ChangeShapes Go.WideShapes Go.ChangeAt Go.RowKit Go.Proofs.YtdjedimjhogdoaaGreatDoor.Base Go.Proofs.YtdjedimjhogdoaaGreatDoor.Byt Go.Proofs.YtdjedimjhogdoaaGreatDoor.Txt Go.Proofs.YtdjedimjhogdoaaGreatDoor.Path Go.Lib
set_option linter.unusedVariables false
set_option maxRecDepth 100000

theorem eqR_deep (a b : List UInt8 × List UInt8) (d : Nat) (w : World) : (Op.equalIn (d + 1 + 1) 53 (.agg #[.string (str a.1), .string (str a.2)]) (.agg #[.string (str b.1), .string (str b.2)])).run Tryz.prog w = .ok (decide (a = b)) w := by
  have e : decide (a = b) = (decide (a.1 = b.1) && decide (a.2 = b.2)) := by
    rw [Bool.eq_iff_iff]
    simp only [decide_eq_true_eq, Bool.and_eq_true]
    constructor
    · rintro rfl; exact ⟨rfl, rfl⟩
    · rintro ⟨h1, h2⟩
      cases a; cases b; simp_all
  have s1 : ∀ x y : List UInt8, ((str x).toList == (str y).toList) = decide (x = y) := fun x y => by
    rw [str_toList, str_toList]
    by_cases h : x = y <;> simp [h]
  have hS : Tryz.prog.underlying 53 = some (.struct (Tryz.prog.fieldsOf 53)) := by kernel_rfl
  have pS : Tryz.prog.stoodInHeld 53 = false := by kernel_rfl
  rw [run_equalIn_agg w (d + 1) _ _ _ hS pS]
  clear hS pS
  simp only [Program.fieldsOf, Tryz.underlying53]
  rw [e, ← s1, ← s1]
  clear e s1
  go_simp
  by_cases h1 : (str a.1).toList = (str b.1).toList
  · by_cases h2 : (str a.2).toList = (str b.2).toList <;> simp [h1, h2]
  · simp only [h1, if_false, beq_eq_false_iff_ne.2 h1, Bool.false_and]
/-- when two records are the same -/
theorem neR (a b : List UInt8 × List UInt8) (w : World) : (binOp .neq 53 (.agg #[.string (str a.1), .string (str a.2)]) (.agg #[.string (str b.1), .string (str b.2)])).run Tryz.prog w = .ok (.bool (!decide (a = b))) w := by
  rw [run_neq_struct, show (10000 : Nat) = 9998 + 1 + 1 from rfl, eqR_deep a b 9998 w]
  rfl
theorem eqR (a b : List UInt8 × List UInt8) (w : World) : (binOp .eql 53 (.agg #[.string (str a.1), .string (str a.2)]) (.agg #[.string (str b.1), .string (str b.2)])).run Tryz.prog w = .ok (.bool (decide (a = b))) w := by
  rw [run_eql_struct, show (10000 : Nat) = 9998 + 1 + 1 from rfl, eqR_deep a b 9998 w]
  rfl
/-- rows that agree so far -/
theorem same_of (rs ss : List (List UInt8 × List UInt8)) (hl : rs.length = ss.length) (h : ∀ j, j < rs.length → rs.getD j ([], []) = ss.getD j ([], [])) : rs = ss := by
  apply List.ext_getElem hl
  intro i h1 h2
  have := h i h1
  rwa [List.getD, List.getD, List.getElem?_eq_getElem h1, List.getElem?_eq_getElem h2] at this
end Go.Proofs.YtdjedimjhogdoaaGreatDoor.Rec
end
section
namespace Go.Proofs.YtdjedimjhogdoaaGreatDoor.Rec
open Go.ChangeShapes Go.WideShapes Go.ChangeAt Go.RowKit Go.Shelf Go.Proofs.YtdjedimjhogdoaaGreatDoor.Base Go.Proofs.YtdjedimjhogdoaaGreatDoor.Byt Go.Proofs.YtdjedimjhogdoaaGreatDoor.Txt Go.Proofs.YtdjedimjhogdoaaGreatDoor.Path Go.Lib
set_option linter.unusedVariables false
set_option maxRecDepth 100000

/-- whether a text is right, by the package's own way -/
theorem recRight_any (l : List UInt8) (w : World) (hm : l.length ≤ 1000000000000) (hT : Tabs w) :
    Calls Tryz.prog 103 #[.string (str l)] w fun e w' => e = .returned (.bool (textD l)) ∧ Below w.heap.size w w' := by
  have hT1 := target_any l w hm hT
  obtain ⟨r, hr⟩ : ∃ r, targetD 9 6 l = r := ⟨_, rfl⟩
  have hne : (r != 9) = textD l := by
    rw [← hr]
    unfold targetD
    cases textD l with
    | false => rfl
    | true =>
      rw [if_neg (by simp)]
      split <;> rfl
  rw [hr] at hT1
  clear hT hm hr
  cases ht : textD l with
  | false =>
    rw [ht] at hne
    go_enter Tryz.func103, Tryz.ntmps103
    go_wp2_with (go_at_call 92; refine hT1.mono ?_; rintro e w1 ⟨rfl, hb⟩)
    go_ret
    exact ⟨rfl, hb⟩
  | true =>
    rw [ht] at hne
    go_enter Tryz.func103, Tryz.ntmps103
    go_wp2_with (go_at_call 92; refine hT1.mono ?_; rintro e w1 ⟨rfl, hb⟩)
    go_ret
    exact ⟨rfl, hb⟩
/-- at the first sign between key and value -/
def cutQ (l : List UInt8) : List UInt8 × List UInt8 × Bool :=
  if 0 ≤ Lib.indexByte l 61 then (l.take (Lib.indexByte l 61).toNat, l.drop ((Lib.indexByte l 61).toNat + 1), true) else (l, [], false)
theorem slCutQ_any (l : List UInt8) (w : World) (hm : l.length ≤ 1000000000000) :
    Calls Tryz.prog 128 #[.string (str l), .string ⟨#[61]⟩] w fun e w' => e = .returned (.tuple #[.string (str (cutQ l).1), .string (str (cutQ l).2.1), .bool (cutQ l).2.2]) ∧ ∃ n, w' = w.drewN n := by
  have hidx := Any.stringslite_Index_one Tryz.laysIndex (str l) 61 w
  rw [str_data] at hidx
  have hs : (str l).size = l.length := str_size l
  unfold cutQ
  by_cases h : 0 ≤ Lib.indexByte l 61
  · obtain ⟨k, hk⟩ : ∃ k : Nat, Lib.indexByte l 61 = k := ⟨(Lib.indexByte l 61).toNat, by omega⟩
    have hlt := (List.getElem?_eq_some_iff.1 (Lib.indexByte_some hk).1).1
    rw [if_pos h, hk, Int.toNat_natCast]
    rw [hk] at hidx
    clear h hk
    simp only
    have e1 : (str l).extract 0 k = str (l.take k) := str_take l k
    have e2 : (str l).extract (k + 1) (str l).size = str (l.drop (k + 1)) := str_drop l (k + 1) _ hs
    rw [← e1, ← e2]
    have c1 : (0 : Int) ≤ (k : Int) := by omega
    have c2 : (k : Int) ≤ ((str l).size : Int) := by omega
    have c3 : (0 : Int) ≤ (k : Int) + 1 := by omega
    have c4 : (k : Int) + 1 ≤ ((str l).size : Int) := by omega
    have c5 : ((str l).size : Int) ≤ 1000000000000 := by omega
    clear e1 e2
    have mixed : Tryz.prog.follows .mixedOrders = true := by kernel_rfl
    go_enter Tryz.func128, Tryz.ntmps128
    go_wp2_with (go_at_call 141; refine hidx.mono ?_; rintro e w' ⟨rfl, rfl⟩)
    go_region_o
    go_wp2
    go_ret3
    exact ⟨rfl, 1, rfl⟩
  · rw [if_neg h]
    have hn : Lib.indexByte l 61 = -1 := by have := Lib.indexByte_ge l 61; omega
    rw [hn] at hidx
    clear h hn
    go_enter Tryz.func128, Tryz.ntmps128
    go_wp2_with (go_at_call 141; refine hidx.mono ?_; rintro e w' ⟨rfl, rfl⟩)
    go_ret3
    exact ⟨rfl, 0, rfl⟩
theorem cutQ_any (l : List UInt8) (w : World) (hm : l.length ≤ 1000000000000) :
    Calls Tryz.prog 102 #[.string (str l), .string ⟨#[61]⟩] w fun e w' => e = .returned (.tuple #[.string (str (cutQ l).1), .string (str (cutQ l).2.1), .bool (cutQ l).2.2]) ∧ ∃ n, w' = w.drewN n := by
  have hc := slCutQ_any l w hm
  go_enter Tryz.func102, Tryz.ntmps102
  go_wp2_with (go_at_call 128; refine hc.mono ?_; rintro e w' ⟨rfl, n, rfl⟩)
  go_ret3
  exact ⟨rfl, n, rfl⟩
end Go.Proofs.YtdjedimjhogdoaaGreatDoor.Rec
end
section
namespace Go.Proofs.YtdjedimjhogdoaaGreatDoor
open Go.Shelf
def Tryz.laysItoa_ren : Go.Shelf.Ren := ⟨fun | 171 => 175 | 243 => 178 | 246 => 181 | 283 => 182 | 284 => 183 | 285 => 184 | 286 => 185 | 129 => 187 | 317 => 186 | 318 => 188 | 319 => 189 | 320 => 190 | 337 => 191 | 338 => 192 | n => n, fun | 3 => 3 | 9 => 9 | 2 => 2 | 4 => 4 | 171 => 227 | 0 => 0 | 53 => 192 | 37 => 22 | 5 => 5 | 173 => 230 | 212 => 233 | 51 => 42 | 20 => 20 | 213 => 234 | 46 => 174 | 232 => 237 | 233 => 238 | n => n, fun | 17 => 5 | 18 => 6 | 19 => 7 | n => n⟩
theorem Tryz.laysItoa : Go.Proofs.LaysM.n171 Tryz.prog Tryz.laysItoa_ren := {
  mixed := by kernel_rfl
  f129 := Tryz.func187.trans (congrArg some (by kernel_rfl))
  f171 := Tryz.func175.trans (congrArg some (by kernel_rfl))
  f243 := Tryz.func178.trans (congrArg some (by kernel_rfl))
  f246 := Tryz.func181.trans (congrArg some (by kernel_rfl))
  f283 := Tryz.func182.trans (congrArg some (by kernel_rfl))
  f284 := Tryz.func183.trans (congrArg some (by kernel_rfl))
  f285 := Tryz.func184.trans (congrArg some (by kernel_rfl))
  f286 := Tryz.func185.trans (congrArg some (by kernel_rfl))
  f317 := Tryz.func186.trans (congrArg some (by kernel_rfl))
  f318 := Tryz.func188.trans (congrArg some (by kernel_rfl))
  f319 := Tryz.func189.trans (congrArg some (by kernel_rfl))
  f320 := Tryz.func190.trans (congrArg some (by kernel_rfl))
  f337 := Tryz.func191.trans (congrArg some (by kernel_rfl))
  f338 := Tryz.func192.trans (congrArg some (by kernel_rfl))
  t0 := Tryz.underlying0
  a0 := Tryz.isAgg0
  z0 := Tryz.sizeOf0
  v0 := Tryz.zeroValue0
  t2 := Tryz.underlying2
  a2 := Tryz.isAgg2
  z2 := Tryz.sizeOf2
  v2 := Tryz.zeroValue2
  t3 := Tryz.underlying3
  a3 := Tryz.isAgg3
  z3 := Tryz.sizeOf3
  v3 := Tryz.zeroValue3
  t4 := Tryz.underlying4
  a4 := Tryz.isAgg4
  z4 := Tryz.sizeOf4
  v4 := Tryz.zeroValue4
  t5 := Tryz.underlying5
  a5 := Tryz.isAgg5
  z5 := Tryz.sizeOf5
  v5 := Tryz.zeroValue5
  t9 := Tryz.underlying9
  a9 := Tryz.isAgg9
  z9 := Tryz.sizeOf9
  v9 := Tryz.zeroValue9
  t20 := Tryz.underlying20
  a20 := Tryz.isAgg20
  z20 := Tryz.sizeOf20
  v20 := Tryz.zeroValue20
  t37 := Tryz.underlying22
  a37 := Tryz.isAgg22
  z37 := Tryz.sizeOf22
  v37 := Tryz.zeroValue22
  t46 := Tryz.underlying174
  a46 := Tryz.isAgg174
  z46 := Tryz.sizeOf174
  v46 := Tryz.zeroValue174
  t51 := Tryz.underlying42
  a51 := Tryz.isAgg42
  z51 := Tryz.sizeOf42
  v51 := Tryz.zeroValue42
  t53 := Tryz.underlying192
  a53 := Tryz.isAgg192
  z53 := Tryz.sizeOf192
  v53 := Tryz.zeroValue192
  t171 := Tryz.underlying227
  a171 := Tryz.isAgg227
  z171 := Tryz.sizeOf227
  v171 := Tryz.zeroValue227
  t173 := Tryz.underlying230
  a173 := Tryz.isAgg230
  z173 := Tryz.sizeOf230
  v173 := Tryz.zeroValue230
  t212 := Tryz.underlying233
  a212 := Tryz.isAgg233
  z212 := Tryz.sizeOf233
  v212 := Tryz.zeroValue233
  t213 := Tryz.underlying234
  a213 := Tryz.isAgg234
  z213 := Tryz.sizeOf234
  t232 := Tryz.underlying237
  a232 := Tryz.isAgg237
  z232 := Tryz.sizeOf237
  v232 := Tryz.zeroValue237
  t233 := Tryz.underlying238
  a233 := Tryz.isAgg238
  z233 := Tryz.sizeOf238
  v233 := Tryz.zeroValue238
  g17 := by kernel_rfl
  g18 := by kernel_rfl
  g19 := by kernel_rfl
  i0 := by kernel_rfl
  i2 := by kernel_rfl
  i3 := by kernel_rfl
  i4 := by kernel_rfl
  i5 := by kernel_rfl
  i9 := by kernel_rfl
  i20 := by kernel_rfl
  i37 := by kernel_rfl
  i46 := by kernel_rfl
  i51 := by kernel_rfl
  i53 := by kernel_rfl
  i171 := by kernel_rfl
  i173 := by kernel_rfl
  i212 := by kernel_rfl
  i232 := by kernel_rfl
  i233 := by kernel_rfl
  m17 := by kernel_rfl
  m18 := by kernel_rfl
  m19 := by kernel_rfl }
end Go.Proofs.YtdjedimjhogdoaaGreatDoor
end
section
namespace Go.Proofs.YtdjedimjhogdoaaGreatDoor.Rec
open Go.ChangeShapes Go.WideShapes Go.ChangeAt Go.RowKit Go.Shelf Go.Proofs.YtdjedimjhogdoaaGreatDoor.Base Go.Proofs.YtdjedimjhogdoaaGreatDoor.Byt Go.Proofs.YtdjedimjhogdoaaGreatDoor.Txt Go.Proofs.YtdjedimjhogdoaaGreatDoor.Path Go.Lib
set_option linter.unusedVariables false
set_option maxRecDepth 100000


theorem below_grow (w : World) (k : Nat) (os : Array Obj) : Below w.heap.size w (Sort.grow (w.drewN k) os) :=
  ⟨rfl, rfl, rfl, by rw [Sort.size_grow]; show w.heap.size ≤ w.heap.size + os.size; omega, fun j hj => by
    show (w.heap ++ os)[j]? = w.heap[j]?
    rw [Array.getElem?_append_left hj]⟩
theorem itoa_any (m : Nat) (w : World) (hm : m ≤ 9223372036854775807) (hN : Need w) :
    Calls Tryz.prog 175 #[.int .i64 (m : Int)] w fun e w' => e = .returned (.string (str (decL m))) ∧ Below w.heap.size w w' := by
  refine (Any.strconv_Itoa Tryz.laysItoa (m : Int) (by omega) (by omega) w hN.2.2).mono ?_
  rintro e w' ⟨rfl, k, os, rfl⟩
  rw [itoa_decL]
  exact ⟨rfl, below_grow w k os⟩
end Go.Proofs.YtdjedimjhogdoaaGreatDoor.Rec
end
section
namespace Go.Proofs.YtdjedimjhogdoaaGreatDoor
open Go.Shelf
def Tryz.laysPu_ren : Go.Shelf.Ren := ⟨fun | 14 => 140 | 16 => 148 | 17 => 145 | 19 => 165 | 20 => 166 | 21 => 161 | 22 => 162 | 23 => 163 | 24 => 164 | 25 => 173 | 27 => 175 | 26 => 174 | 28 => 178 | 29 => 181 | 30 => 182 | 31 => 183 | 32 => 184 | 33 => 185 | 35 => 187 | 34 => 186 | 36 => 188 | 37 => 189 | 38 => 190 | 39 => 191 | 40 => 192 | n => n, fun | 9 => 9 | 3 => 3 | 22 => 192 | 24 => 178 | 25 => 193 | 4 => 4 | 34 => 207 | 5 => 5 | 36 => 174 | 37 => 22 | 0 => 0 | 39 => 210 | 21 => 21 | 44 => 218 | 47 => 221 | 50 => 224 | 48 => 222 | 2 => 2 | 52 => 227 | 55 => 230 | 59 => 233 | 60 => 42 | 20 => 20 | 61 => 234 | 65 => 237 | 66 => 238 | 67 => 239 | n => n, fun | 0 => 3 | 1 => 4 | 2 => 5 | 3 => 6 | 4 => 7 | n => n⟩
theorem Tryz.laysPu : Go.Proofs.LaysPu.n14 Tryz.prog Tryz.laysPu_ren := {
  mixed := by kernel_rfl
  f14 := Tryz.func140.trans (congrArg some (by kernel_rfl))
  f16 := Tryz.func148.trans (congrArg some (by kernel_rfl))
  f17 := Tryz.func145.trans (congrArg some (by kernel_rfl))
  f19 := Tryz.func165.trans (congrArg some (by kernel_rfl))
  f20 := Tryz.func166.trans (congrArg some (by kernel_rfl))
  f21 := Tryz.func161.trans (congrArg some (by kernel_rfl))
  f22 := Tryz.func162.trans (congrArg some (by kernel_rfl))
  f23 := Tryz.func163.trans (congrArg some (by kernel_rfl))
  f24 := Tryz.func164.trans (congrArg some (by kernel_rfl))
  f25 := Tryz.func173.trans (congrArg some (by kernel_rfl))
  f26 := Tryz.func174.trans (congrArg some (by kernel_rfl))
  f27 := Tryz.func175.trans (congrArg some (by kernel_rfl))
  f28 := Tryz.func178.trans (congrArg some (by kernel_rfl))
  f29 := Tryz.func181.trans (congrArg some (by kernel_rfl))
  f30 := Tryz.func182.trans (congrArg some (by kernel_rfl))
  f31 := Tryz.func183.trans (congrArg some (by kernel_rfl))
  f32 := Tryz.func184.trans (congrArg some (by kernel_rfl))
  f33 := Tryz.func185.trans (congrArg some (by kernel_rfl))
  f34 := Tryz.func186.trans (congrArg some (by kernel_rfl))
  f35 := Tryz.func187.trans (congrArg some (by kernel_rfl))
  f36 := Tryz.func188.trans (congrArg some (by kernel_rfl))
  f37 := Tryz.func189.trans (congrArg some (by kernel_rfl))
  f38 := Tryz.func190.trans (congrArg some (by kernel_rfl))
  f39 := Tryz.func191.trans (congrArg some (by kernel_rfl))
  f40 := Tryz.func192.trans (congrArg some (by kernel_rfl))
  t0 := Tryz.underlying0
  a0 := Tryz.isAgg0
  z0 := Tryz.sizeOf0
  v0 := Tryz.zeroValue0
  i0 := by kernel_rfl
  t2 := Tryz.underlying2
  a2 := Tryz.isAgg2
  z2 := Tryz.sizeOf2
  v2 := Tryz.zeroValue2
  i2 := by kernel_rfl
  t3 := Tryz.underlying3
  a3 := Tryz.isAgg3
  z3 := Tryz.sizeOf3
  v3 := Tryz.zeroValue3
  i3 := by kernel_rfl
  t4 := Tryz.underlying4
  a4 := Tryz.isAgg4
  z4 := Tryz.sizeOf4
  v4 := Tryz.zeroValue4
  i4 := by kernel_rfl
  t5 := Tryz.underlying5
  a5 := Tryz.isAgg5
  z5 := Tryz.sizeOf5
  v5 := Tryz.zeroValue5
  i5 := by kernel_rfl
  t9 := Tryz.underlying9
  a9 := Tryz.isAgg9
  z9 := Tryz.sizeOf9
  v9 := Tryz.zeroValue9
  i9 := by kernel_rfl
  t20 := Tryz.underlying20
  a20 := Tryz.isAgg20
  z20 := Tryz.sizeOf20
  v20 := Tryz.zeroValue20
  i20 := by kernel_rfl
  t21 := Tryz.underlying21
  a21 := Tryz.isAgg21
  z21 := Tryz.sizeOf21
  v21 := Tryz.zeroValue21
  i21 := by kernel_rfl
  t22 := Tryz.underlying192
  a22 := Tryz.isAgg192
  z22 := Tryz.sizeOf192
  v22 := Tryz.zeroValue192
  i22 := by kernel_rfl
  t24 := Tryz.underlying178
  a24 := Tryz.isAgg178
  z24 := Tryz.sizeOf178
  v24 := Tryz.zeroValue178
  i24 := by kernel_rfl
  t25 := Tryz.underlying193
  a25 := Tryz.isAgg193
  z25 := Tryz.sizeOf193
  v25 := Tryz.zeroValue193
  i25 := by kernel_rfl
  t34 := Tryz.underlying207
  a34 := Tryz.isAgg207
  z34 := Tryz.sizeOf207
  v34 := Tryz.zeroValue207
  i34 := by kernel_rfl
  c34 := by kernel_rfl
  t36 := Tryz.underlying174
  a36 := Tryz.isAgg174
  z36 := Tryz.sizeOf174
  v36 := Tryz.zeroValue174
  i36 := by kernel_rfl
  t37 := Tryz.underlying22
  a37 := Tryz.isAgg22
  z37 := Tryz.sizeOf22
  v37 := Tryz.zeroValue22
  i37 := by kernel_rfl
  t39 := Tryz.underlying210
  a39 := Tryz.isAgg210
  z39 := Tryz.sizeOf210
  v39 := Tryz.zeroValue210
  i39 := by kernel_rfl
  t44 := Tryz.underlying218
  a44 := Tryz.isAgg218
  z44 := Tryz.sizeOf218
  v44 := Tryz.zeroValue218
  i44 := by kernel_rfl
  t47 := Tryz.underlying221
  a47 := Tryz.isAgg221
  z47 := Tryz.sizeOf221
  v47 := Tryz.zeroValue221
  i47 := by kernel_rfl
  t48 := Tryz.underlying222
  a48 := Tryz.isAgg222
  z48 := Tryz.sizeOf222
  v48 := Tryz.zeroValue222
  i48 := by kernel_rfl
  t50 := Tryz.underlying224
  a50 := Tryz.isAgg224
  z50 := Tryz.sizeOf224
  v50 := Tryz.zeroValue224
  i50 := by kernel_rfl
  t52 := Tryz.underlying227
  a52 := Tryz.isAgg227
  z52 := Tryz.sizeOf227
  v52 := Tryz.zeroValue227
  i52 := by kernel_rfl
  t55 := Tryz.underlying230
  a55 := Tryz.isAgg230
  z55 := Tryz.sizeOf230
  v55 := Tryz.zeroValue230
  i55 := by kernel_rfl
  t59 := Tryz.underlying233
  a59 := Tryz.isAgg233
  z59 := Tryz.sizeOf233
  v59 := Tryz.zeroValue233
  i59 := by kernel_rfl
  t60 := Tryz.underlying42
  a60 := Tryz.isAgg42
  z60 := Tryz.sizeOf42
  v60 := Tryz.zeroValue42
  i60 := by kernel_rfl
  t61 := Tryz.underlying234
  a61 := Tryz.isAgg234
  z61 := Tryz.sizeOf234
  t65 := Tryz.underlying237
  a65 := Tryz.isAgg237
  z65 := Tryz.sizeOf237
  v65 := Tryz.zeroValue237
  i65 := by kernel_rfl
  t66 := Tryz.underlying238
  a66 := Tryz.isAgg238
  z66 := Tryz.sizeOf238
  v66 := Tryz.zeroValue238
  i66 := by kernel_rfl
  t67 := Tryz.underlying239
  a67 := Tryz.isAgg239
  z67 := Tryz.sizeOf239
  v67 := Tryz.zeroValue239
  i67 := by kernel_rfl
  g0 := by kernel_rfl
  m0 := by kernel_rfl
  g1 := by kernel_rfl
  m1 := by kernel_rfl
  g2 := by kernel_rfl
  m2 := by kernel_rfl
  g3 := by kernel_rfl
  m3 := by kernel_rfl
  g4 := by kernel_rfl
  m4 := by kernel_rfl }
end Go.Proofs.YtdjedimjhogdoaaGreatDoor
end
section
namespace Go.Proofs.YtdjedimjhogdoaaGreatDoor.Rec
open Go.ChangeShapes Go.WideShapes Go.ChangeAt Go.RowKit Go.Shelf Go.Proofs.YtdjedimjhogdoaaGreatDoor.Base Go.Proofs.YtdjedimjhogdoaaGreatDoor.Byt Go.Proofs.YtdjedimjhogdoaaGreatDoor.Txt Go.Proofs.YtdjedimjhogdoaaGreatDoor.Path Go.Proofs.YtdjedimjhogdoaaGreatDoor.Num Go.Lib
set_option linter.unusedVariables false
set_option maxRecDepth 100000

/-- what ParseUint hands back of few bytes, in the package's own words -/
theorem puint_any (l : List UInt8) (w : World) (h1 : 1 ≤ l.length) (h2 : l.length ≤ 7) (hN : Need w) :
    Calls Tryz.prog 140 #[.string (str l), .int .i64 10, .int .i64 64] w fun e w' =>
      ∃ (u : Nat) (x : Value), e = .returned (.tuple #[.int .u64 (u : Int), x]) ∧ Below w.heap.size w w' ∧
        ((l.all isDig = true ∧ u = valL l ∧ x = .nilIface) ∨ (l.all isDig = false ∧ u = 0 ∧ ∃ t y, x = .iface t y)) := by
  have hp := parse_few l h1 (by omega)
  have hs : (str l).size = l.length := str_size l
  cases hd : l.all isDig with
  | true =>
    rw [hd, if_pos rfl] at hp
    refine (Any.strconv_ParseUint_10_at64_ok Tryz.laysPu (str l) (by omega) (valL l) (by rw [str_data]; exact hp) w).mono ?_
    rintro e w' ⟨rfl, hw⟩
    refine ⟨valL l, .nilIface, rfl, ?_, .inl ⟨rfl, rfl, rfl⟩⟩
    rcases hw with rfl | rfl
    · exact Below.refl _ _
    · exact str_below w _ _
  | false =>
    rw [hd, if_neg (by simp)] at hp
    obtain ⟨tp, p, hv⟩ := hN.2.1
    refine (Any.strconv_ParseUint_10_at64_syntax_var Tryz.laysPu (str l) (by omega) (by rw [str_data]; exact hp) tp p w hv).mono ?_
    rintro e w' ⟨N, rfl, _, _, hb⟩
    exact ⟨0, _, rfl, hb, .inr ⟨rfl, rfl, _, _, rfl⟩⟩
theorem recNum_any (p : Option Addr) (n c : Nat) (bs : List UInt8) (w : World) (hn : bs.length = n) (hm : n ≤ 1000000000000) (h : BAt w p n bs) (hN : Need w) :
    Calls Tryz.prog 127 #[.slice p n c] w fun e w' => e = .returned (wholeV (numD bs)) ∧ Below w.heap.size w w' := by
  have mixed : Tryz.prog.follows .mixedOrders = true := by kernel_rfl
  by_cases hr : 1 ≤ n ∧ n ≤ 7
  · have hi : inB (n : Int) 1 7 = true := inB_true (by omega) (by omega)
    obtain ⟨b, o, rfl, hc⟩ := h (by omega)
    have hc0 := hc 0 (by omega)
    rw [Nat.add_zero] at hc0
    obtain ⟨C, hC⟩ : ∃ C : Nat, (bs.getD 0 0).toNat = C := ⟨_, rfl⟩
    rw [hC] at hc0
    have hnz : (0 : Int) < (n : Int) := by omega
    by_cases h48 : bs.getD 0 0 = 48
    · have e : numD bs = none := by unfold numD; rw [if_pos (.inr (.inr h48))]
      rw [e]
      have hb : ((C : Int) == 48) = true := by rw [← hC, h48]; rfl
      clear h hN hc h48 hC e hn
      go_enter Tryz.func127, Tryz.ntmps127
      go_wp2_with (go_at_call 91; refine (in_any _ _ _ _).mono ?_; rw [hi]; rintro e w2 ⟨rfl, rfl⟩)
      go_ret2
      exact ⟨rfl, Below.refl _ _⟩
    · have hb : ((C : Int) == 48) = false := by
        rw [beq_eq_false_iff_ne]
        intro e
        refine h48 (UInt8.toNat_inj.1 ?_)
        rw [hC]
        show C = 48
        omega
      have HP := Lib.hid (puint_any bs w (by omega) (by omega) hN)
      have cs := conv_at h hn 22 5 9 Tryz.underlying22 Tryz.underlying5 Tryz.underlying9 c
      have HND : Hid (numD bs = if bs.all isDig then some (valL bs) else none) := Lib.hid (by
        unfold numD
        rw [if_neg (by
          rintro (e | e | e)
          · omega
          · omega
          · exact h48 e)])
      have HVL : Hid (bs.all isDig = true → valL bs < 10000000) := Lib.hid (fun hd => by
        have h3 := valL_lt bs (List.all_eq_true.1 hd)
        have h5 : 10 ^ bs.length ≤ 10 ^ 7 := Nat.pow_le_pow_right (by omega) (by omega)
        have h6 : (10 : Nat) ^ 7 = 10000000 := by decide
        omega)
      clear h hN hc h48 hC hn
      go_enter Tryz.func127, Tryz.ntmps127
      go_wp2_with (go_at_call 91; refine (in_any _ _ _ _).mono ?_; rw [hi]; rintro e w2 ⟨rfl, rfl⟩)
      rw [show (⟨bs.toArray⟩ : ByteArray) = str bs from rfl]
      go_at_call 140
      refine HP.out.mono ?_
      rintro e w1 ⟨u, x, rfl, hb1, (⟨hd, rfl, rfl⟩ | ⟨hd, rfl, t, y, rfl⟩)⟩
      · have hu := HVL.out hd
        have HE : Hid (numD bs = some (valL bs)) := Lib.hid (by rw [HND.out, hd]; rfl)
        obtain ⟨u, hu2⟩ : ∃ u, valL bs = u := ⟨_, rfl⟩
        rw [hu2] at hu HE ⊢
        have q1 : IntKind.i64.wrap (u : Int) = (u : Int) := by rw [IntKind.wrap_i64]; omega
        have HB := Lib.hid hb1
        clear hb1 hd hu2 cs HVL
        go_wp2_with fail
        go_quiet (fail)
        have HBD := Lib.hid (below_drewN HB.out nq)
        go_wp2
        go_ret2
        rw [HE.out]
        exact ⟨rfl, HBD.out⟩
      · have HE : Hid (numD bs = none) := Lib.hid (by rw [HND.out, hd]; rfl)
        have HB := Lib.hid hb1
        clear hb1 hd cs HVL
        go_wp2_with fail
        go_quiet (fail)
        have HBD := Lib.hid (below_drewN HB.out nq)
        go_wp2
        go_ret2
        rw [HE.out]
        exact ⟨rfl, HBD.out⟩
  · have hi : inB (n : Int) 1 7 = false := inB_false (by omega)
    have e : numD bs = none := by unfold numD; rw [if_pos (by omega)]
    rw [e]
    clear h hN e hn hr
    go_enter Tryz.func127, Tryz.ntmps127
    go_wp2_with (go_at_call 91; refine (in_any _ _ _ _).mono ?_; rw [hi]; rintro e w2 ⟨rfl, rfl⟩)
    go_ret2
    exact ⟨rfl, Below.refl _ _⟩
end Go.Proofs.YtdjedimjhogdoaaGreatDoor.Rec
end
section
namespace Go.Proofs.YtdjedimjhogdoaaGreatDoor.Rec
open Go.ChangeShapes Go.WideShapes Go.ChangeAt Go.RowKit Go.Shelf Go.Proofs.YtdjedimjhogdoaaGreatDoor.Base Go.Proofs.YtdjedimjhogdoaaGreatDoor.Byt Go.Proofs.YtdjedimjhogdoaaGreatDoor.Txt Go.Proofs.YtdjedimjhogdoaaGreatDoor.Path Go.Proofs.YtdjedimjhogdoaaGreatDoor.Num Go.Lib
set_option linter.unusedVariables false
set_option maxRecDepth 100000

theorem mark_cell (w : World) (t : TypeId) (x : Int) : (w.alloc (.cells #[.int .u8 x] t (1, 2))).cell? ⟨w.heap.size, 0, none⟩ = some (.int .u8 x) := by
  rw [World.cell?_alloc_mark]
  rfl
theorem bcutI_any (b o n c b2 : Nat) (bs : List UInt8) (w : World) (hn : bs.length = n) (hc : n ≤ c) (hm : n ≤ 1000000000000) (h : BAt w (some ⟨b, o, none⟩) n bs) (h2 : w.cell? ⟨b2, 0, none⟩ = some (.int .u8 32)) :
    Calls Tryz.prog 80 #[.slice (some ⟨b, o, none⟩) n c, .slice (some ⟨b2, 0, none⟩) 1 1] w fun e w' => e = .returned (Lib.cutV (some ⟨b, o, none⟩) n c 1 (Lib.indexByte bs 32)) ∧ ∃ q, w' = w.drewN q := by
  have hnb : bytesOf (nums bs) = bs := bytesOf_nums bs
  have hidx := Any.bytes_Index_one Tryz.laysCut.index b o n c b2 0 1 (nums bs) 32 w (by rw [nums_length, hn]) (fun i hi => by
    obtain ⟨b', o', he, hcell⟩ := h (by omega)
    cases he
    rw [hcell i hi]
    simp [nums, List.getD, List.getElem?_eq_getElem (show i < bs.length by omega)]) h2
  rw [hnb, show (32 : Int).toNat.toUInt8 = 32 from rfl] at hidx
  have hroom : 0 ≤ Lib.indexByte bs 32 → Lib.indexByte bs 32 + (1 : Nat) ≤ n := fun h0 => by
    obtain ⟨k, hk⟩ : ∃ k : Nat, Lib.indexByte bs 32 = k := ⟨(Lib.indexByte bs 32).toNat, by omega⟩
    have := (Lib.indexByte_some hk).1
    have hlt := (List.getElem?_eq_some_iff.1 this).1
    omega
  exact Any.bytes_Cut_of Tryz.laysCut (some ⟨b, o, none⟩) (some ⟨b2, 0, none⟩) n c 1 1 (Lib.indexByte bs 32) w hc (Lib.indexByte_ge _ _) hroom (by omega) (hidx.mono fun e w' he => ⟨he.1, 0, he.2⟩)
theorem bcut_no (b o n c b2 : Nat) (bs : List UInt8) (w : World) (hn : bs.length = n) (hc : n ≤ c) (hm : n ≤ 1000000000000) (h : BAt w (some ⟨b, o, none⟩) n bs) (h2 : w.cell? ⟨b2, 0, none⟩ = some (.int .u8 32)) (hi : Lib.indexByte bs 32 < 0) :
    Calls Tryz.prog 80 #[.slice (some ⟨b, o, none⟩) n c, .slice (some ⟨b2, 0, none⟩) 1 1] w fun e w' => e = .returned (.tuple #[.slice (some ⟨b, o, none⟩) n c, .slice none 0 0, .bool false]) ∧ ∃ q, w' = w.drewN q := by
  have := bcutI_any b o n c b2 bs w hn hc hm h h2
  unfold Lib.cutV at this
  rwa [if_neg (by omega)] at this
theorem bcut_at (b o n c b2 i r : Nat) (bs : List UInt8) (w : World) (hn : bs.length = n) (hc : n ≤ c) (hm : n ≤ 1000000000000) (h : BAt w (some ⟨b, o, none⟩) n bs) (h2 : w.cell? ⟨b2, 0, none⟩ = some (.int .u8 32)) (hi : Lib.indexByte bs 32 = (i : Int)) (hr : n = i + 1 + r) :
    Calls Tryz.prog 80 #[.slice (some ⟨b, o, none⟩) n c, .slice (some ⟨b2, 0, none⟩) 1 1] w fun e w' => ∃ q2 c2, e = .returned (.tuple #[.slice (some ⟨b, o, none⟩) i c, .slice q2 r c2, .bool true]) ∧ r ≤ c2 ∧ BAt w' q2 r (bs.drop (i + 1)) ∧ ∃ q, w' = w.drewN q := by
  refine (bcutI_any b o n c b2 bs w hn hc hm h h2).mono ?_
  rintro e w' ⟨rfl, q, rfl⟩
  unfold Lib.cutV
  rw [if_pos (by omega), hi, Int.toNat_natCast]
  have hd := h.drop (k := i + 1) (c := c) (by omega) hc hn
  rw [show n - (i + 1) = r by omega] at hd
  refine ⟨_, c - (i + 1), ?_, by omega, hd.below (below_drewN (Below.refl _ _) q), q, rfl⟩
  unfold Lib.fromV
  rw [show n - (i + 1) = r by omega]
/-- a line that is cut off, as the package hands it back -/
def cutAns (r : Option (List UInt8 × Nat)) : Value := match r with
  | some (t, m) => .tuple #[.string (str t), .int .i64 (m : Int), .bool true]
  | none => .tuple #[.string ⟨#[]⟩, .int .i64 0, .bool false]
set_option maxHeartbeats 1000000 in
theorem recCut_any (b o n c : Nat) (bs : List UInt8) (w : World) (hn : bs.length = n) (hc : n ≤ c) (hm : n ≤ 1000000000000) (h : BAt w (some ⟨b, o, none⟩) n bs) (hN : Need w) :
    Calls Tryz.prog 101 #[.slice (some ⟨b, o, none⟩) n c] w fun e w' => e = .returned (cutAns (cutD bs)) ∧ Below w.heap.size w w' := by
  have C5 := Lib.run_convert_bytes_const (P := Tryz.prog) w 22 5 #[.int .u8 32] 1 1 Tryz.underlying22 Tryz.underlying5
  obtain ⟨wm, hwm⟩ : ∃ wm, w.alloc (.cells #[.int .u8 32] 5 (1, 2)) = wm := ⟨_, rfl⟩
  have hba : Below w.heap.size w wm := by rw [← hwm]; exact (Below.refl _ _).alloc (Nat.le_refl _) _
  have HA := Lib.hid hba
  have HM := Lib.hid (by rw [← hwm]; exact mark_cell w 5 32 : wm.cell? ⟨w.heap.size, 0, none⟩ = some (.int .u8 32))
  have H := Lib.hid h
  have HT := Lib.hid hN
  have HN := Lib.hid hn
  rw [show ((#[.int .u8 32] : Array Value).size, (#[.int .u8 32] : Array Value).size + 1) = (1, 2) from rfl, hwm] at C5
  clear hba h hN hwm
  by_cases h0 : Lib.indexByte bs 32 < 0
  · have e : cutD bs = none := by unfold cutD; rw [if_pos h0]
    rw [e]
    have HI := Lib.hid h0
    clear e h0
    go_enter Tryz.func101, Tryz.ntmps101
    go_wp2_with fail
    refine (bcut_no b o n c w.heap.size bs wm HN.out hc hm (H.out.below HA.out) HM.out HI.out).mono ?_
    rintro e w1 ⟨rfl, q, rfl⟩
    have HB := Lib.hid (below_drewN HA.out q)
    go_wp2
    go_ret3
    exact ⟨rfl, HB.out⟩
  · obtain ⟨i, hi⟩ : ∃ i : Nat, Lib.indexByte bs 32 = i := ⟨(Lib.indexByte bs 32).toNat, by omega⟩
    obtain ⟨hil, _, _⟩ := digN_blank bs i hi
    obtain ⟨r, hr⟩ : ∃ r, n = i + 1 + r := ⟨n - (i + 1), by omega⟩
    have hti : (bs.take i).length = i := by rw [List.length_take]; omega
    have HD : Hid (cutD bs = match numD (bs.take i) with
      | none => none
      | some m => if m < i + 4 ∨ bs.length < m ∨ bs.getD (m - 1) 0 ≠ 10 then none else some ((bs.drop (i + 1)).take (m - 1 - (i + 1)), m)) := Lib.hid (by
        unfold cutD
        rw [if_neg h0, hi, Int.toNat_natCast]
        cases numD (bs.take i) <;> rfl)
    have HI := Lib.hid (And.intro hi hr)
    have HTI := Lib.hid hti
    have hi12 : (i : Int) ≤ 1000000000000 := by omega
    have hr12 : (r : Int) ≤ 1000000000000 := by omega
    have HIM : Hid (i ≤ 1000000000000 ∧ i ≤ n) := Lib.hid (by omega)
    clear hi h0 hti hil
    cases hnum : numD (bs.take i) with
    | none =>
      rw [hnum] at HD
      have HU : Hid (∀ w, BAt w (some ⟨b, o, none⟩) i (bs.take i) → Need w → Calls Tryz.prog 127 #[.slice (some ⟨b, o, none⟩) i c] w fun e w' => e = .returned (.tuple #[.int .i64 0, .bool false]) ∧ Below w.heap.size w w') := Lib.hid (fun w h1 h2 => by
        have := recNum_any (some ⟨b, o, none⟩) i c (bs.take i) w HTI.out HIM.out.1 h1 h2
        rw [hnum] at this
        exact this)
      rw [HD.out]
      clear hnum HD hr
      go_enter Tryz.func101, Tryz.ntmps101
      go_wp2_with fail
      refine (bcut_at b o n c w.heap.size i r bs wm HN.out hc hm (H.out.below HA.out) HM.out HI.out.1 HI.out.2).mono ?_
      rintro e w1 ⟨q2, c2, rfl, _, _, q, rfl⟩
      have HB := Lib.hid (below_drewN HA.out q)
      go_wp2_with fail
      refine (HU.out _ ((H.out.take HIM.out.2).below HB.out) (HT.out.below HB.out)).mono ?_
      rintro e w2 ⟨rfl, hb2⟩
      have HB2 := Lib.hid (HB.out.trans (hb2.mono HB.out.size))
      clear hb2
      go_wp2
      go_ret3
      exact ⟨rfl, HB2.out⟩
    | some m =>
      have hm7 := (numD_some hnum).2.2.2.2.2
      rw [hnum] at HD
      have HU : Hid (∀ w, BAt w (some ⟨b, o, none⟩) i (bs.take i) → Need w → Calls Tryz.prog 127 #[.slice (some ⟨b, o, none⟩) i c] w fun e w' => e = .returned (.tuple #[.int .i64 (m : Int), .bool true]) ∧ Below w.heap.size w w') := Lib.hid (fun w h1 h2 => by
        have := recNum_any (some ⟨b, o, none⟩) i c (bs.take i) w HTI.out HIM.out.1 h1 h2
        rw [hnum] at this
        exact this)
      have hm7i : (m : Int) < 10000000 := by omega
      by_cases hbad : m < i + 4 ∨ n < m
      · have hin : inB ((m : Int) - (i : Int) - 1) 3 (r : Int) = false := inB_false (by omega)
        have HE : Hid (cutD bs = none) := Lib.hid (by
          rw [HD.out]
          simp only
          rw [if_pos (by rw [HN.out]; rcases hbad with h | h; exact .inl h; exact .inr (.inl h))])
        rw [HE.out]
        have HIN := Lib.hid hin
        clear hnum HD hr hm7 hin hbad
        go_enter Tryz.func101, Tryz.ntmps101
        go_wp2_with fail
        refine (bcut_at b o n c w.heap.size i r bs wm HN.out hc hm (H.out.below HA.out) HM.out HI.out.1 HI.out.2).mono ?_
        rintro e w1 ⟨q2, c2, rfl, _, _, q, rfl⟩
        have HB := Lib.hid (below_drewN HA.out q)
        go_wp2_with fail
        refine (HU.out _ ((H.out.take HIM.out.2).below HB.out) (HT.out.below HB.out)).mono ?_
        rintro e w2 ⟨rfl, hb2⟩
        have HB2 := Lib.hid (HB.out.trans (hb2.mono HB.out.size))
        clear hb2
        go_wp2_with fail
        refine (in_any _ _ _ _).mono ?_
        rw [HIN.out]
        rintro e w3 ⟨rfl, rfl⟩
        go_wp2
        go_ret3
        exact ⟨rfl, HB2.out⟩
      · obtain ⟨v, hv⟩ : ∃ v, m = i + 2 + v := ⟨m - (i + 2), by omega⟩
        have hin : inB ((v : Int) + 1) 3 (r : Int) = true := inB_true (by omega) (by omega)
        have HIN := Lib.hid hin
        have hown : (m : Int) - (i : Int) - 1 = (v : Int) + 1 := by omega
        have hvr : (v : Int) < (r : Int) := by omega
        have HVR : Hid (v < r ∧ v ≤ r) := Lib.hid (by omega)
        obtain ⟨C, hC⟩ : ∃ C : Nat, (bs.getD (m - 1) 0).toNat = C := ⟨_, rfl⟩
        have HC : Hid (((bs.drop (i + 1)).getD v 0).toNat = C) := Lib.hid (by
          rw [← hC, show m - 1 = i + 1 + v by omega]
          simp [List.getD])
        have HDL : Hid ((bs.drop (i + 1)).length = r) := Lib.hid (by rw [List.length_drop]; omega)
        by_cases h10 : bs.getD (m - 1) 0 = 10
        · have hb : ((C : Int) != 10) = false := by rw [← hC, h10]; rfl
          have HE : Hid (cutD bs = some ((bs.drop (i + 1)).take v, m)) := Lib.hid (by
            rw [HD.out]
            simp only
            rw [if_neg (by
              rw [HN.out]
              rintro (h | h | h)
              · exact hbad (.inl h)
              · exact hbad (.inr h)
              · exact h h10), show m - 1 - (i + 1) = v by omega])
          rw [HE.out]
          clear hnum HD hr hm7 hin hbad hC h10 hv
          go_enter Tryz.func101, Tryz.ntmps101
          go_wp2_with fail
          refine (bcut_at b o n c w.heap.size i r bs wm HN.out hc hm (H.out.below HA.out) HM.out HI.out.1 HI.out.2).mono ?_
          rintro e w1 ⟨q2, c2, rfl, hr2, hbt, q, rfl⟩
          have HB := Lib.hid (below_drewN HA.out q)
          have HBT := Lib.hid hbt
          clear hbt
          go_wp2_with fail
          refine (HU.out _ ((H.out.take HIM.out.2).below HB.out) (HT.out.below HB.out)).mono ?_
          rintro e w2 ⟨rfl, hb2⟩
          have HB2 := Lib.hid (HB.out.trans (hb2.mono HB.out.size))
          have HBT2 := Lib.hid (HBT.out.below hb2)
          clear hb2
          obtain ⟨b3, o3, rfl, hc3⟩ := HBT2.out (by have := HVR.out; omega)
          have g0 := hc3 v HVR.out.1
          rw [HC.out] at g0
          have cs := conv_at (HBT2.out.take HVR.out.2) (by rw [List.length_take, HDL.out]; have := HVR.out; omega) 22 5 9 Tryz.underlying22 Tryz.underlying5 Tryz.underlying9 c2
          have HE3 : Hid ((⟨((bs.drop (i + 1)).take v).toArray⟩ : ByteArray) = str ((bs.drop (i + 1)).take v)) := Lib.hid rfl
          clear hc3
          go_wp2_with fail
          refine (in_any _ _ _ _).mono ?_
          rw [HIN.out]
          rintro e w3 ⟨rfl, rfl⟩
          go_wp2
          go_ret3
          exact ⟨rfl, HB2.out⟩
        · have hb : ((C : Int) != 10) = true := by
            have : ¬ C = 10 := fun e => h10 (UInt8.toNat_inj.1 (by rw [hC, e]; rfl))
            simp; omega
          have HE : Hid (cutD bs = none) := Lib.hid (by
            rw [HD.out]
            simp only
            rw [if_pos (.inr (.inr h10))])
          rw [HE.out]
          clear hnum HD hr hm7 hin hbad hC h10 hv
          go_enter Tryz.func101, Tryz.ntmps101
          go_wp2_with fail
          refine (bcut_at b o n c w.heap.size i r bs wm HN.out hc hm (H.out.below HA.out) HM.out HI.out.1 HI.out.2).mono ?_
          rintro e w1 ⟨q2, c2, rfl, hr2, hbt, q, rfl⟩
          have HB := Lib.hid (below_drewN HA.out q)
          have HBT := Lib.hid hbt
          clear hbt
          go_wp2_with fail
          refine (HU.out _ ((H.out.take HIM.out.2).below HB.out) (HT.out.below HB.out)).mono ?_
          rintro e w2 ⟨rfl, hb2⟩
          have HB2 := Lib.hid (HB.out.trans (hb2.mono HB.out.size))
          have HBT2 := Lib.hid (HBT.out.below hb2)
          clear hb2
          obtain ⟨b3, o3, rfl, hc3⟩ := HBT2.out (by have := HVR.out; omega)
          have g0 := hc3 v HVR.out.1
          rw [HC.out] at g0
          clear hc3
          go_wp2_with fail
          refine (in_any _ _ _ _).mono ?_
          rw [HIN.out]
          rintro e w3 ⟨rfl, rfl⟩
          go_wp2
          go_ret3
          exact ⟨rfl, HB2.out⟩
end Go.Proofs.YtdjedimjhogdoaaGreatDoor.Rec
end
section
namespace Go.Proofs.YtdjedimjhogdoaaGreatDoor.Rec
open Go.ChangeShapes Go.WideShapes Go.ChangeAt Go.RowKit Go.Proofs.YtdjedimjhogdoaaGreatDoor.Base Go.Proofs.YtdjedimjhogdoaaGreatDoor.Byt Go.Proofs.YtdjedimjhogdoaaGreatDoor.Txt Go.Proofs.YtdjedimjhogdoaaGreatDoor.Path Go.Lib
set_option linter.unusedVariables false
set_option maxRecDepth 100000

theorem lines_take (rs : List (List UInt8 × List UInt8)) (j : Nat) (h : j < rs.length) : linesD (rs.take (j + 1)) = linesD (rs.take j) ++ lineD (rs.getD j ([], [])).1 (rs.getD j ([], [])).2 := by
  rw [List.take_add_one, List.getElem?_eq_getElem h, List.getD, List.getElem?_eq_getElem h]
  simp only [Option.toList, linesD, List.map_append, List.flatten_append, List.map_cons, List.map_nil, List.flatten_cons, List.flatten_nil, List.append_nil, Option.getD_some]
theorem getD_mem (rs : List (List UInt8 × List UInt8)) (j : Nat) (h : j < rs.length) : rs.getD j ([], []) ∈ rs := by
  rw [List.getD, List.getElem?_eq_getElem h]; exact List.getElem_mem h
theorem take_all (rs : List (List UInt8 × List UInt8)) (j : Nat) (h : j < rs.length) (P : List UInt8 × List UInt8 → Prop) (h1 : ∀ r ∈ rs.take j, P r) (h2 : P (rs.getD j ([], []))) : ∀ r ∈ rs.take (j + 1), P r := by
  intro r hr
  rw [List.take_add_one, List.getElem?_eq_getElem h] at hr
  rcases List.mem_append.1 hr with h3 | h3
  · exact h1 r h3
  · rw [List.getD, List.getElem?_eq_getElem h] at h2
    simp at h3
    rw [h3]; exact h2
theorem lines_len (l : List (List UInt8 × List UInt8)) (h : ∀ r ∈ l, mayD r.1 r.2 = true) : (linesD l).length ≤ 100010 * l.length := by
  induction l with
  | nil => simp [linesD]
  | cons r l ih =>
    have h1 := ih fun x hx => h x (List.mem_cons_of_mem _ hx)
    have hr := h r (by simp)
    obtain ⟨d, _, _, _, _, h7, _, hl⟩ := line_parts hr
    have h5 := (mayD_spec hr).2.2.2.2
    have e : linesD (r :: l) = lineD r.1 r.2 ++ linesD l := by simp [linesD]
    rw [e, List.length_append, List.length_cons]
    omega
theorem nums_app (a b : List UInt8) : nums (a ++ b) = nums a ++ nums b := by simp [nums]
theorem strCells_str (l : List UInt8) : strCells (str l) = (nums l).map (Value.int .u8) := by
  unfold strCells nums
  rw [str_data, List.map_map]
  rfl
/-- what Put hands back: all lines in a row of its own, or nothing -/
def PutsPost (rs : List (List UInt8 × List UInt8)) (w : World) (e : Ending) (w' : World) : Prop :=
  ((∀ r ∈ rs, mayD r.1 r.2 = true) → ∃ p c, e = .returned (.tuple #[.slice p (linesD rs).length c, .bool true]) ∧ (linesD rs).length ≤ c ∧ c ≤ maxLen ∧ BAt w' p (linesD rs).length (linesD rs)) ∧
    ((∃ r ∈ rs, mayD r.1 r.2 = false) → e = .returned (.tuple #[.slice none 0 0, .bool false])) ∧ Below w.heap.size w w'
theorem infoOctR : (Tryz.prog.info? 5).map (fun i => (i.zero, i.size, i.bytes)) = some (some (.int .u8 0), 1, 1) := by kernel_rfl
theorem cutD_le {l t : List UInt8} {m : Nat} (h : cutD l = some (t, m)) : m ≤ l.length ∧ 0 < m ∧ t.length ≤ l.length := by
  unfold cutD at h
  split at h
  · cases h
  · split at h
    · cases h
    · split at h
      · cases h
      · cases h
        refine ⟨by omega, by omega, ?_⟩
        rw [List.length_take, List.length_drop]
        omega
theorem recCutP_any (p : Option Addr) (n c : Nat) (bs : List UInt8) (w : World) (h0 : 0 < n) (hn : bs.length = n) (hc : n ≤ c) (hm : n ≤ 1000000000000) (h : BAt w p n bs) (hN : Need w) :
    Calls Tryz.prog 101 #[.slice p n c] w fun e w' => e = .returned (cutAns (cutD bs)) ∧ Below w.heap.size w w' := by
  obtain ⟨b, o, rfl, hcell⟩ := h h0
  exact recCut_any b o n c bs w hn hc hm h hN
set_option maxHeartbeats 8000000 in
theorem recParse_any (p0 : Option Addr) (n0 c0 : Nat) (bs : List UInt8) (w : World) (hn : bs.length = n0) (hc : n0 ≤ c0) (hm : n0 ≤ 1000000000000) (h : BAt w p0 n0 bs) (hN : Need w) :
    Calls Tryz.prog 81 #[.slice p0 n0 c0] w (RecsPost 5 9 bs w) := by
  have H := Lib.hid h
  have HT := Lib.hid hN
  have HN := Lib.hid hn
  have HN0 := Lib.hid hm
  have HC0 := Lib.hid hc
  obtain ⟨i0, hi, hz0, hz1, hz2⟩ := info_parts infoRec
  have HI := Lib.hid hi
  have HZ0 := Lib.hid hz0
  have HZ1 := Lib.hid hz1
  have HZ2 := Lib.hid hz2
  clear h hn hi hz0 hz1 hz2 hN hm hc
  go_enter Tryz.func81, Tryz.ntmps81
  go_wp2_with fail
  go_loopw [0, 4] (fun b o wr => ∃ (l : List UInt8) (p : Option Addr) (n c : Nat) (acc : List (List UInt8 × List UInt8)), b = .slice p n c ∧ n ≤ c ∧ Hid (l.length = n) ∧ Hid (BAt w p n l) ∧ Hid (wr.ownsRow w.heap.size 53 2 o acc.length (flatR acc)) ∧ Hid (recsFrom 5 9 l acc = recsD 5 9 bs) ∧ Hid (acc.length + n ≤ n0) ∧ Hid (Below w.heap.size w wr)) (fun b _ _ => match b with | .slice _ n _ => n | _ => 0)
  case atStart => exact ⟨bs, p0, n0, c0, [], rfl, HC0.out, HN, H, Lib.hid (World.ownsRow_nil _ _ _ _), Lib.hid rfl, Lib.hid (by simp), Lib.hid (Below.refl _ _)⟩
  case round =>
    obtain ⟨l, p, n, c, acc, rfl, hcc, hln, hbt, hown, hr, hlen, hB⟩ := hrel
    by_cases hl0 : n = 0
    · subst hl0
      have hl : l = [] := List.length_eq_zero_iff.1 hln.out
      have hG : Hid (recsD 5 9 bs = (acc, 0)) := Lib.hid (by rw [← hr.out, hl, recsFrom_nil])
      obtain ⟨q, cq, rfl, h1, h2, h3⟩ := recs_own hown.out
      have H3 := Lib.hid (And.intro h1 (And.intro h2 h3))
      clear hl h1 h2 h3
      go_wp2
      go_ret2
      refine ⟨q, cq, by rw [hG.out]; rfl, ?_, H3.out.2.1, ?_, hB.out⟩
      · rw [hG.out]; exact H3.out.1
      · rw [hG.out]; exact H3.out.2.2
    · have hpos : (0 : Int) < (n : Int) := by omega
      have HPOS : Hid (0 < n) := Lib.hid (by omega)
      have HNE : Hid (l ≠ []) := Lib.hid (fun e => by have := hln.out; rw [e] at this; exact hl0 (by simpa using this.symm))
      have hsm : (n : Int) ≤ 1000000000000 := by have := hlen.out; have := HN0.out; omega
      have HG : Hid (∀ er, recStep 5 9 l = .error er → recsD 5 9 bs = ([], er)) := Lib.hid (fun er he => by rw [← hr.out, recsFrom_step 5 9 l HNE.out, he])
      have HCUT := Lib.hid (fun w1 h1 h2 => recCutP_any p n c l w1 HPOS.out hln.out hcc (by omega) h1 h2)
      have HRS := Lib.hid (recStep_cutD 5 9 l)
      clear hl0
      cases hcut : cutD l with
      | none =>
        rw [hcut] at HCUT HRS
        have E : Hid (recsD 5 9 bs = ([], 5)) := Lib.hid (HG.out 5 HRS.out)
        clear hcut
        go_wp2_with fail
        refine (HCUT.out _ (hbt.out.below hB.out) (HT.out.below hB.out)).mono ?_
        unfold cutAns
        rintro e w1 ⟨rfl, hb1⟩
        have HB1 := Lib.hid (hB.out.trans (hb1.mono hB.out.size))
        clear hb1
        go_wp2
        go_ret2
        exact recs_err 5 9 bs w _ 5 E.out HB1.out
      | some x =>
        obtain ⟨t, m⟩ := x
        obtain ⟨hml, hm0, htl⟩ := cutD_le hcut
        rw [hcut] at HCUT HRS
        have HML : Hid (m ≤ n ∧ 0 < m) := Lib.hid (by have := hln.out; omega)
        have hmn : (m : Int) ≤ (n : Int) := by have := HML.out; omega
        have hmpos : (0 : Int) < (m : Int) := by omega
        have htl2 : t.length ≤ 1000000000000 := by have := hln.out; omega
        have HTL := Lib.hid htl2
        have HQ := Lib.hid (fun w1 => cutQ_any t w1 HTL.out)
        have HRT := Lib.hid (fun w1 h1 => recRight_any t w1 HTL.out h1)
        clear hcut hml hm0 htl htl2
        by_cases hq : Lib.indexByte t 61 < 1
        · have E : Hid (recsD 5 9 bs = ([], 5)) := Lib.hid (HG.out 5 (by
            rw [HRS.out]
            simp only
            rw [if_pos hq]))
          by_cases hq0 : 0 ≤ Lib.indexByte t 61
          · have hz : Lib.indexByte t 61 = 0 := by omega
            have HQ2 : Hid (∀ w, Calls Tryz.prog 102 #[.string (str t), .string ⟨#[61]⟩] w fun e w' => e = .returned (.tuple #[.string ⟨#[]⟩, .string (str (t.drop 1)), .bool true]) ∧ ∃ n, w' = w.drewN n) := Lib.hid (fun w1 => by
              have := HQ.out w1
              unfold cutQ at this
              rw [if_pos hq0, hz] at this
              exact this)
            clear hq hq0 hz
            go_wp2_with fail
            refine (HCUT.out _ (hbt.out.below hB.out) (HT.out.below hB.out)).mono ?_
            unfold cutAns
            rintro e w1 ⟨rfl, hb1⟩
            have HB1 := Lib.hid (hB.out.trans (hb1.mono hB.out.size))
            clear hb1
            go_wp2_with fail
            refine (HQ2.out _).mono ?_
            rintro e w2 ⟨rfl, nd, rfl⟩
            have HB2 := Lib.hid (below_drewN HB1.out nd)
            go_wp2
            go_ret2
            exact recs_err 5 9 bs w _ 5 E.out HB2.out
          · have HQ2 : Hid (∀ w, Calls Tryz.prog 102 #[.string (str t), .string ⟨#[61]⟩] w fun e w' => e = .returned (.tuple #[.string (str t), .string (str []), .bool false]) ∧ ∃ n, w' = w.drewN n) := Lib.hid (fun w1 => by
              have := HQ.out w1
              unfold cutQ at this
              rw [if_neg hq0] at this
              exact this)
            clear hq hq0
            go_wp2_with fail
            refine (HCUT.out _ (hbt.out.below hB.out) (HT.out.below hB.out)).mono ?_
            unfold cutAns
            rintro e w1 ⟨rfl, hb1⟩
            have HB1 := Lib.hid (hB.out.trans (hb1.mono hB.out.size))
            clear hb1
            go_wp2_with fail
            refine (HQ2.out _).mono ?_
            rintro e w2 ⟨rfl, nd, rfl⟩
            have HB2 := Lib.hid (below_drewN HB1.out nd)
            go_wp2
            go_ret2
            exact recs_err 5 9 bs w _ 5 E.out HB2.out
        · obtain ⟨k, hk⟩ : ∃ k : Nat, Lib.indexByte t 61 = k := ⟨(Lib.indexByte t 61).toNat, by omega⟩
          obtain ⟨kk, hkk⟩ : ∃ kk, t.take k = kk := ⟨_, rfl⟩
          obtain ⟨vv, hvv⟩ : ∃ vv, t.drop (k + 1) = vv := ⟨_, rfl⟩
          have hkl := (List.getElem?_eq_some_iff.1 (Lib.indexByte_some hk).1).1
          have hkne : (str kk).toList.isEmpty = false := by
            rw [str_empty, decide_eq_false_iff_not, ← hkk]
            intro e
            have := congrArg List.length e
            rw [List.length_take, List.length_nil] at this
            omega
          have HQ2 : Hid (∀ w, Calls Tryz.prog 102 #[.string (str t), .string ⟨#[61]⟩] w fun e w' => e = .returned (.tuple #[.string (str kk), .string (str vv), .bool true]) ∧ ∃ n, w' = w.drewN n) := Lib.hid (fun w1 => by
            have := HQ.out w1
            unfold cutQ at this
            rw [if_pos (by omega), hk, Int.toNat_natCast] at this
            simp only [hkk, hvv] at this
            exact this)
          cases ht : textD t with
          | false =>
            rw [ht] at HRT
            have E : Hid (recsD 5 9 bs = ([], 9)) := Lib.hid (HG.out 9 (by
              rw [HRS.out]
              simp only
              rw [if_neg hq, if_pos ht]))
            clear hq hk hkk hvv ht hkl
            go_wp2_with fail
            refine (HCUT.out _ (hbt.out.below hB.out) (HT.out.below hB.out)).mono ?_
            unfold cutAns
            rintro e w1 ⟨rfl, hb1⟩
            have HB1 := Lib.hid (hB.out.trans (hb1.mono hB.out.size))
            clear hb1
            go_wp2_with fail
            refine (HQ2.out _).mono ?_
            rintro e w2 ⟨rfl, nd, rfl⟩
            have HB2 := Lib.hid (below_drewN HB1.out nd)
            go_wp2_with fail
            refine (HRT.out _ (HT.out.below HB2.out).tabs).mono ?_
            rintro e w3 ⟨rfl, hb3⟩
            have HB3 := Lib.hid (HB2.out.trans (hb3.mono HB2.out.size))
            clear hb3
            go_wp2
            go_ret2
            exact recs_err 5 9 bs w _ 9 E.out HB3.out
          | true =>
            rw [ht] at HRT
            have HST : Hid (recsFrom 5 9 (l.drop m) (acc ++ [(kk, vv)]) = recsD 5 9 bs) := Lib.hid (by
              rw [← hr.out, recsFrom_step 5 9 l HNE.out, HRS.out]
              simp only
              rw [if_neg hq, if_neg (by rw [ht]; simp), hk, Int.toNat_natCast]
              simp only [hkk, hvv])
            have HBT2 : Hid (BAt w (if c = m then p else p.map (·.add m)) (n - m) (l.drop m)) := Lib.hid (hbt.out.drop HML.out.1 hcc hln.out)
            have HLD : Hid ((l.drop m).length = n - m) := Lib.hid (by rw [List.length_drop, hln.out])
            clear hq hk hkk hvv ht hkl
            go_wp2_with fail
            refine (HCUT.out _ (hbt.out.below hB.out) (HT.out.below hB.out)).mono ?_
            unfold cutAns
            rintro e w1 ⟨rfl, hb1⟩
            have HB1 := Lib.hid (hB.out.trans (hb1.mono hB.out.size))
            have HO1 := Lib.hid (row_below hown.out hb1)
            clear hb1
            go_wp2_with fail
            refine (HQ2.out _).mono ?_
            rintro e w2 ⟨rfl, nd, rfl⟩
            have HB2 := Lib.hid (below_drewN HB1.out nd)
            have HO2 := Lib.hid (row_below HO1.out (below_drewN (Below.refl w1.heap.size w1) nd))
            go_wp2_with fail
            refine (HRT.out _ (HT.out.below HB2.out).tabs).mono ?_
            rintro e w3 ⟨rfl, hb3⟩
            have HB3 := Lib.hid (HB2.out.trans (hb3.mono HB2.out.size))
            have HO3 := Lib.hid (row_below HO2.out hb3)
            clear hb3
            have HOWN : Hid (World.ownsRow (w3.alloc (.cells #[.string (str kk), .string (str vv)] 53)) w.heap.size 53 2 u4 acc.length (flatR acc)) := Lib.hid (HO3.out.alloc _)
            have HBD : Hid (Below w.heap.size w (w3.alloc (.cells #[.string (str kk), .string (str vv)] 53))) := Lib.hid (HB3.out.alloc HB3.out.size _)
            have HCL : Hid (∀ j u, ([Value.string (str kk), .string (str vv)] : List Value)[j]? = some u → (w3.alloc (.cells #[.string (str kk), .string (str vv)] 53)).cell? ((⟨w3.heap.size, 0, none⟩ : Addr).add j) = some u) := Lib.hid (fun j u hj => by
              obtain ⟨g0, g1⟩ := cells2 w3 53 (.string (str kk)) (.string (str vv))
              match j, hj with
              | 0, hj => cases hj; exact g0
              | 1, hj => cases hj; exact g1
              | j + 2, hj => simp at hj)
            have HAL : Hid (acc.length + 1 ≤ 1000000000001) := Lib.hid (by have := hlen.out; have := HN0.out; omega)
            have HSZ1 : Hid (w.heap.size ≤ (w3.alloc (.cells #[.string (str kk), .string (str vv)] 53)).heap.size) := Lib.hid HBD.out.size
            go_wp2_with (at_builtin; refine wpList_append_own _ rfl _ _ 73 rfl w.heap.size 53 i0 (.agg #[.string ⟨#[]⟩, .string ⟨#[]⟩]) 2 32 Tryz.underlying73 HI.out HZ0.out HZ1.out HZ2.out rfl (by decide) _ acc.length (flatR acc) rfl HOWN.out ⟨w3.heap.size, 0, none⟩ 1 1 [.string (str kk), .string (str vv)] rfl rfl HCL.out (by
              intro u hu
              rcases List.mem_cons.1 hu with rfl | hu
              · rfl
              · rcases List.mem_cons.1 hu with rfl | hu
                · rfl
                · cases hu) (by have := HAL.out; unfold maxLen; omega) (by have := HAL.out; omega) HSZ1.out ?_)
            intro v' w4 hown' hgrow _
            have HOW1 : Hid (w4.ownsRow w.heap.size 53 2 v' (acc ++ [(kk, vv)]).length (flatR (acc ++ [(kk, vv)]))) := Lib.hid (by
              rw [flatR_snoc, List.length_append]; exact hown')
            have HBW : Hid (Below w.heap.size w w4) := Lib.hid (HBD.out.grown hgrow HBD.out.size (fun b hb => by
              rcases HOWN.out.2 with ⟨rfl, _⟩ | ⟨g, cap, cur, rfl, hb2, _⟩
              · cases hb
              · cases hb; exact hb2))
            clear hown' hgrow
            go_wp2_with fail
            go_roundw
            case rel => exact ⟨l.drop m, _, n - m, c - m, acc ++ [(kk, vv)], rfl, by omega, HLD, HBT2, HOW1, HST, Lib.hid (by have h2 := hlen.out; have := HML.out; rw [List.length_append]; simp only [List.length_cons, List.length_nil]; omega), HBW⟩
            case measure => have := HML.out; simp; omega
end Go.Proofs.YtdjedimjhogdoaaGreatDoor.Rec
end
section
namespace Go.Proofs.YtdjedimjhogdoaaGreatDoor.Mem
open Go.ChangeShapes Go.WideShapes Go.ChangeAt Go.RowKit Go.Proofs.YtdjedimjhogdoaaGreatDoor.Base Go.Proofs.YtdjedimjhogdoaaGreatDoor.Byt Go.Proofs.YtdjedimjhogdoaaGreatDoor.Txt Go.Proofs.YtdjedimjhogdoaaGreatDoor.Bk Go.Proofs.YtdjedimjhogdoaaGreatDoor.Mk Go.Proofs.YtdjedimjhogdoaaGreatDoor.Block Go.Proofs.YtdjedimjhogdoaaGreatDoor.Hp Go.Proofs.YtdjedimjhogdoaaGreatDoor.Head Go.Proofs.YtdjedimjhogdoaaGreatDoor.Attr Go.Proofs.YtdjedimjhogdoaaGreatDoor.Rec Go.Lib Go.Shelf
set_option linter.unusedVariables false
set_option maxRecDepth 100000

/-- bytes.Cut at a byte 0, nil or not -/
theorem cutP_any (p : Option Addr) (n b2 : Nat) (bs : List UInt8) (w : World) (hn : bs.length = n) (hm : n ≤ 140737488351232) (h : BAt w p n bs) (h2 : w.cell? ⟨b2, 0, none⟩ = some (.int .u8 0)) :
    Calls Tryz.prog 80 #[.slice p n n, .slice (some ⟨b2, 0, none⟩) 1 1] w fun e w' => ∃ v2 v3, e = .returned (.tuple #[.slice p (untilB bs).length n, v2, v3]) ∧ Kept noneB w w' := by
  rcases Nat.eq_zero_or_pos n with h0 | h0
  · subst h0
    obtain rfl : bs = [] := List.eq_nil_of_length_eq_zero hn
    rcases p with _ | x
    · refine (Any.bytes_Cut_of Tryz.laysCut none (some ⟨b2, 0, none⟩) 0 0 1 1 (-1) w (Nat.le_refl _) (by omega) (by omega) (by omega) ((Any.bytes_Index_one_nil Tryz.laysCut.index b2 0 1 0 w h2).mono fun e w' he => ⟨he.1, 0, he.2⟩)).mono ?_
      rintro e w' ⟨rfl, q, rfl⟩
      unfold Lib.cutV
      rw [if_neg (by omega)]
      exact ⟨_, _, rfl, (Kept.refl _ _).drewN _⟩
    · refine (Any.bytes_Cut_of Tryz.laysCut (some x) (some ⟨b2, 0, none⟩) 0 0 1 1 (-1) w (Nat.le_refl _) (by omega) (by omega) (by omega) ((Any.bytes_Index_one_at Tryz.laysCut.index x 0 0 b2 0 1 [] 0 w rfl (fun i hi => absurd hi (by omega)) h2).mono fun e w' he => ⟨he.1, 0, he.2⟩)).mono ?_
      rintro e w' ⟨rfl, q, rfl⟩
      unfold Lib.cutV
      rw [if_neg (by omega)]
      exact ⟨_, _, rfl, (Kept.refl _ _).drewN _⟩
  · obtain ⟨b, o, rfl, _⟩ := h h0
    exact cut_any b o n n b2 bs w hn (Nat.le_refl _) hm h h2
section
variable {w0 w w' : World} {K : RK} {a : Nat} {s : RS} {mb : Option Nat} {v : Value} {xs : List MP} {q : Option Addr} {n c : Nat}
theorem wait_agg (s : RS) (q : Option Addr) (n c : Nat) (k : UInt8) : ∃ x p m d, (waitF s q n c k).getD (.agg #[.string ⟨#[]⟩, .slice none 0 0]) = .agg #[.string x, .slice p m d] := by
  unfold waitF
  by_cases h1 : k = 120
  · rw [if_pos h1]
    by_cases h2 : s.hasX = true
    · rw [if_pos h2]; exact ⟨_, _, _, _, rfl⟩
    · rw [if_neg h2]; exact ⟨_, _, _, _, rfl⟩
  · rw [if_neg h1]
    by_cases h2 : k = 76
    · rw [if_pos h2]
      cases s.name <;> exact ⟨_, _, _, _, rfl⟩
    · rw [if_neg h2]
      by_cases h3 : k = 75
      · rw [if_pos h3]
        cases s.link <;> exact ⟨_, _, _, _, rfl⟩
      · rw [if_neg h3]; exact ⟨_, _, _, _, rfl⟩
theorem body_ok (w : World) (g a t : Nat) (S : Sv) (h : Src w g S a t) (ho : S.off g) (k : Nat) (hk : k ≤ 1048576) (X : List UInt8) (hX : (S.bs.drop a).take k = X) (hl : a + padN k ≤ S.n) :
    Calls Tryz.prog 79 #[.pointer (some ⟨g, 0, none⟩), .int .i64 (k : Int)] w fun e w' => ∃ p t', e = .returned (.tuple #[.slice p k k, .int .i64 0]) ∧ BAt w' p k X ∧ (∀ x, p = some x → w.heap.size ≤ x.block) ∧ Src w' g S (a + padN k) t' ∧ Kept (oneB g) w w' := by
  refine (body_any w g a t S h ho k (by omega)).mono ?_
  rintro e w' (⟨_, p, rfl, h2, h3, ⟨t', h4⟩, h5⟩ | ⟨h1, _⟩)
  · exact ⟨p, t', rfl, by rw [← hX]; exact h2, h3, h4, h5⟩
  · omega
theorem body_no (w : World) (g a t : Nat) (S : Sv) (h : Src w g S a t) (ho : S.off g) (k : Nat) (hk : k ≤ 1048576) (hl : S.n < a + padN k) :
    Calls Tryz.prog 79 #[.pointer (some ⟨g, 0, none⟩), .int .i64 (k : Int)] w fun e w' => ∃ t', e = .returned (.tuple #[.slice none 0 0, .int .i64 2]) ∧ Src w' g S S.n t' ∧ Kept (oneB g) w w' := by
  refine (body_any w g a t S h ho k (by omega)).mono ?_
  rintro e w' (⟨h1, _⟩ | ⟨_, rfl, ⟨t', h4⟩, h5⟩)
  · omega
  · exact ⟨t', rfl, h4, h5⟩
/-- what a step leaves, as it is said of the reader -/
def Left (w0 : World) (K : RK) (a : Nat) (s : RS) (w' : World) : Prop := ∃ mb v xs q n c, Rd w0 w' K a s mb v xs q n c
set_option maxHeartbeats 2000000 in
theorem ext_waits (hr : Rd w0 w K a s mb v xs q n c) (h : HeadV) (hw : (waitF s q n c h.kind).isSome = true) :
    Calls Tryz.prog 53 #[.pointer (some ⟨K.r, 0, none⟩), .agg (headC h)] w fun e w' => e = .returned (.int .i64 5) ∧ Below w.heap.size w w' := by
  have HR := Lib.hid hr
  obtain ⟨kn, hkn⟩ : ∃ kn : Int, (h.kind.toNat : Int) = kn := ⟨_, rfl⟩
  obtain ⟨W1, hW1⟩ : ∃ W1, w.alloc (.cells (headC h) 57) = W1 := ⟨_, rfl⟩
  have hB1 : Below w.heap.size w W1 := by rw [← hW1]; exact (Below.refl _ w).alloc (Nat.le_refl _) _
  have b1 : Blk W1 w.heap.size 57 (headC h) := by rw [← hW1]; exact Blk.new w _ _
  have R1 := hr.below hB1
  have hB2 : Below w.heap.size w (W1.alloc (.cells #[.string ⟨#[]⟩, .slice none 0 0] 133)) := hB1.alloc hB1.size _
  have R2 := hr.below hB2
  have l1 := look_ext (R1.idle ((Kept.refl noneB _).drew)).map h.kind kn hkn
  have l2 := look_ext (R2.idle ((Kept.refl noneB _).drew)).map h.kind kn hkn
  obtain ⟨ex, ep, em, ed, hv⟩ := wait_agg s q n c h.kind
  rw [hv, hw] at l1 l2
  have x2 := R1.c2
  have k2 := b1.cell 2
  simp only [headC, List.getElem?_toArray, List.getElem?_cons_zero, List.getElem?_cons_succ, hkn] at k2
  have y2 := R2.c2
  have j2 := (b1.alloc (.cells #[.string ⟨#[]⟩, .slice none 0 0] 133)).cell 2
  simp only [headC, List.getElem?_toArray, List.getElem?_cons_zero, List.getElem?_cons_succ, hkn] at j2
  have HB1 := Lib.hid hB1
  have HX := Lib.hid b1
  have HKN := Lib.hid hkn
  clear hr hw hkn hv R1 R2 b1 hB1 hB2
  go_enter Tryz.func53, Tryz.ntmps53
  go_upto_region 1 with fail
  clear hW1
  go_cut [5, 6] from 13 to 22 (fun s5 s6 wx => s5 = .pointer (some ⟨W1.heap.size, 0, none⟩) ∧ s6 = .bool true ∧ wx = (W1.alloc (.cells #[.string ex, .slice ep em ed] 133)).drew)
  case first =>
    go_region
    all_goals (go_wp2; go_meet; exact ⟨rfl, rfl, rfl⟩)
  case rest =>
    obtain ⟨rfl, rfl, rfl⟩ := hcut
    clear l1 l2 x2 k2 y2 j2
    have hB2 : Below w.heap.size w (W1.alloc (.cells #[.string ex, .slice ep em ed] 133)).drew := ((HB1.out.alloc HB1.out.size _)).drew
    have HX2 : Hid (Blk (W1.alloc (.cells #[.string ex, .slice ep em ed] 133)).drew w.heap.size 57 (headC h)) := Lib.hid ((HX.out.alloc _).drew)
    obtain ⟨W2, hW2⟩ : ∃ W2, (W1.alloc (.cells #[.string ex, .slice ep em ed] 133)).drew = W2 := ⟨_, rfl⟩
    rw [hW2] at hB2 HX2 ⊢
    clear hW2
    have HB2 := Lib.hid hB2
    have HR2 := Lib.hid (HR.out.below hB2)
    clear hB2 HB1 HX
    go_wp2
    go_ret
    exact ⟨rfl, HB2.out⟩
set_option maxHeartbeats 2000000 in
theorem ext_large (hr : Rd w0 w K a s mb v xs q n c) (h : HeadV) (hw : waitF s q n c h.kind = none) (hz : 1048576 < h.size) :
    Calls Tryz.prog 53 #[.pointer (some ⟨K.r, 0, none⟩), .agg (headC h)] w fun e w' => e = .returned (.int .i64 10) ∧ Below w.heap.size w w' := by
  have HR := Lib.hid hr
  obtain ⟨kn, hkn⟩ : ∃ kn : Int, (h.kind.toNat : Int) = kn := ⟨_, rfl⟩
  obtain ⟨W1, hW1⟩ : ∃ W1, w.alloc (.cells (headC h) 57) = W1 := ⟨_, rfl⟩
  have hB1 : Below w.heap.size w W1 := by rw [← hW1]; exact (Below.refl _ w).alloc (Nat.le_refl _) _
  have b1 : Blk W1 w.heap.size 57 (headC h) := by rw [← hW1]; exact Blk.new w _ _
  have R1 := hr.below hB1
  have hB2 : Below w.heap.size w (W1.alloc (.cells #[.string ⟨#[]⟩, .slice none 0 0] 133)) := hB1.alloc hB1.size _
  have R2 := hr.below hB2
  have l1 := look_ext (R1.idle ((Kept.refl noneB _).drew)).map h.kind kn hkn
  have l2 := look_ext (R2.idle ((Kept.refl noneB _).drew)).map h.kind kn hkn
  rw [hw] at l1 l2
  simp only [Option.getD_none, Option.isSome_none] at l1 l2
  have x2 := R1.c2
  have k2 := b1.cell 2
  simp only [headC, List.getElem?_toArray, List.getElem?_cons_zero, List.getElem?_cons_succ, hkn] at k2
  have y2 := R2.c2
  have j2 := (b1.alloc (.cells #[.string ⟨#[]⟩, .slice none 0 0] 133)).cell 2
  simp only [headC, List.getElem?_toArray, List.getElem?_cons_zero, List.getElem?_cons_succ, hkn] at j2
  have HB1 := Lib.hid hB1
  have HX := Lib.hid b1
  have HKN := Lib.hid hkn
  clear hr hw hkn R1 R2 b1 hB1 hB2
  go_enter Tryz.func53, Tryz.ntmps53
  go_upto_region 1 with fail
  clear hW1
  go_cut [5, 6] from 13 to 22 (fun s5 s6 wx => s5 = .pointer (some ⟨W1.heap.size, 0, none⟩) ∧ s6 = .bool false ∧ wx = (W1.alloc (.cells #[.string ⟨#[]⟩, .slice none 0 0] 133)).drew)
  case first =>
    go_region
    all_goals (go_wp2; go_meet; exact ⟨rfl, rfl, rfl⟩)
  case rest =>
    obtain ⟨rfl, rfl, rfl⟩ := hcut
    clear l1 l2 x2 k2 y2 j2
    have hB2 : Below w.heap.size w (W1.alloc (.cells #[.string ⟨#[]⟩, .slice none 0 0] 133)).drew := ((HB1.out.alloc HB1.out.size _)).drew
    have HX2 : Hid (Blk (W1.alloc (.cells #[.string ⟨#[]⟩, .slice none 0 0] 133)).drew w.heap.size 57 (headC h)) := Lib.hid ((HX.out.alloc _).drew)
    obtain ⟨W2, hW2⟩ : ∃ W2, (W1.alloc (.cells #[.string ⟨#[]⟩, .slice none 0 0] 133)).drew = W2 := ⟨_, rfl⟩
    rw [hW2] at hB2 HX2 ⊢
    clear hW2
    have HB2 := Lib.hid hB2
    have HR2 := Lib.hid (HR.out.below hB2)
    clear hB2 HB1 HX
    have z7 := HX2.out.cell 7
    simp only [headC, List.getElem?_toArray, List.getElem?_cons_zero, List.getElem?_cons_succ] at z7
    go_wp2
    go_ret
    exact ⟨rfl, HB2.out⟩
set_option maxHeartbeats 2000000 in
theorem ext_short (hr : Rd w0 w K a s mb v xs q n c) (h : HeadV) (hw : waitF s q n c h.kind = none) (k : Nat) (hk0 : h.size = (k : Int)) (hz : k ≤ 1048576) (hl : K.S.n < a + padN k) :
    Calls Tryz.prog 53 #[.pointer (some ⟨K.r, 0, none⟩), .agg (headC h)] w fun e w' => e = .returned (.int .i64 2) ∧ Below w0.heap.size w0 w' := by
  have HBR := Lib.hid hl
  have HKL := Lib.hid hz
  have HSZ := Lib.hid hk0
  have hlarge : ¬ (1048576 : Int) < (k : Int) := by omega
  clear hl hz hk0
  have HR := Lib.hid hr
  obtain ⟨kn, hkn⟩ : ∃ kn : Int, (h.kind.toNat : Int) = kn := ⟨_, rfl⟩
  obtain ⟨W1, hW1⟩ : ∃ W1, w.alloc (.cells (headC h) 57) = W1 := ⟨_, rfl⟩
  have hB1 : Below w.heap.size w W1 := by rw [← hW1]; exact (Below.refl _ w).alloc (Nat.le_refl _) _
  have b1 : Blk W1 w.heap.size 57 (headC h) := by rw [← hW1]; exact Blk.new w _ _
  have R1 := hr.below hB1
  have hB2 : Below w.heap.size w (W1.alloc (.cells #[.string ⟨#[]⟩, .slice none 0 0] 133)) := hB1.alloc hB1.size _
  have R2 := hr.below hB2
  have l1 := look_ext (R1.idle ((Kept.refl noneB _).drew)).map h.kind kn hkn
  have l2 := look_ext (R2.idle ((Kept.refl noneB _).drew)).map h.kind kn hkn
  rw [hw] at l1 l2
  simp only [Option.getD_none, Option.isSome_none] at l1 l2
  have x2 := R1.c2
  have k2 := b1.cell 2
  simp only [headC, List.getElem?_toArray, List.getElem?_cons_zero, List.getElem?_cons_succ, hkn] at k2
  have y2 := R2.c2
  have j2 := (b1.alloc (.cells #[.string ⟨#[]⟩, .slice none 0 0] 133)).cell 2
  simp only [headC, List.getElem?_toArray, List.getElem?_cons_zero, List.getElem?_cons_succ, hkn] at j2
  have HB1 := Lib.hid hB1
  have HX := Lib.hid b1
  have HKN := Lib.hid hkn
  clear hr hw hkn R1 R2 b1 hB1 hB2
  go_enter Tryz.func53, Tryz.ntmps53
  go_upto_region 1 with fail
  clear hW1
  go_cut [5, 6] from 13 to 22 (fun s5 s6 wx => s5 = .pointer (some ⟨W1.heap.size, 0, none⟩) ∧ s6 = .bool false ∧ wx = (W1.alloc (.cells #[.string ⟨#[]⟩, .slice none 0 0] 133)).drew)
  case first =>
    go_region
    all_goals (go_wp2; go_meet; exact ⟨rfl, rfl, rfl⟩)
  case rest =>
    obtain ⟨rfl, rfl, rfl⟩ := hcut
    clear l1 l2 x2 k2 y2 j2
    have hB2 : Below w.heap.size w (W1.alloc (.cells #[.string ⟨#[]⟩, .slice none 0 0] 133)).drew := ((HB1.out.alloc HB1.out.size _)).drew
    have HX2 : Hid (Blk (W1.alloc (.cells #[.string ⟨#[]⟩, .slice none 0 0] 133)).drew w.heap.size 57 (headC h)) := Lib.hid ((HX.out.alloc _).drew)
    obtain ⟨W2, hW2⟩ : ∃ W2, (W1.alloc (.cells #[.string ⟨#[]⟩, .slice none 0 0] 133)).drew = W2 := ⟨_, rfl⟩
    rw [hW2] at hB2 HX2 ⊢
    clear hW2
    have HB2 := Lib.hid hB2
    have HR2 := Lib.hid (HR.out.below hB2)
    clear hB2 HB1 HX
    have x0 := HR2.out.c0
    have z7 := HX2.out.cell 7
    simp only [headC, List.getElem?_toArray, List.getElem?_cons_zero, List.getElem?_cons_succ, HSZ.out] at z7
    have hRd := HR2.out.idle ((Kept.refl noneB W2).drew)
    obtain ⟨t, hs⟩ := hRd.src
    have hne : w.heap.size ≠ K.g := by
      obtain ⟨t', hs'⟩ := HR.out.src
      have := hs'.lt
      omega
    have HRD := Lib.hid hRd
    have HNE := Lib.hid hne
    have hB := body_no W2.drew K.g a t K.S hs hRd.off k HKL.out HBR.out
    clear hs hRd hne
    go_upto_region 6 with fail
    go_region_held_law (fun w' => w'.cell? ⟨K.r, 0, none⟩ = some (.pointer (some ⟨K.g, 0, none⟩)) ∧ w'.cell? ⟨w.heap.size, 7, none⟩ = some (.int .i64 (k : Int))) (first | exact ⟨x0, z7⟩ | exact hS3)
      (first
        | (go_at_call 79
           refine hB.mono ?_
           rintro e w3 ⟨t', rfl, h4, h5⟩
           have H3 := Lib.hid (HRD.out.moved h5 ⟨t', h4⟩)
           have HX3 : Hid (Blk w3 w.heap.size 57 (headC h)) := Lib.hid ((HX2.out.drew).keptS h5 HNE.out)
           have HB3 := Lib.hid h5
           have hS3 : w3.cell? ⟨K.r, 0, none⟩ = some (.pointer (some ⟨K.g, 0, none⟩)) ∧ w3.cell? ⟨w.heap.size, 7, none⟩ = some (.int .i64 (k : Int)) := ⟨H3.out.c0, by have := HX3.out.cell 7; simp only [headC, List.getElem?_toArray, List.getElem?_cons_zero, List.getElem?_cons_succ, HSZ.out] at this; exact this⟩
           clear h4 h5))
    clear hB hS3 x0 z7
    go_wp2
    go_ret
    exact ⟨rfl, H3.out.bel⟩
theorem put_name (s : RS) (q : Option Addr) (n c : Nat) (T : List UInt8) : (fun y => if y = 76 then some (Value.agg #[.string (str T), .slice none 0 0]) else waitF s q n c y) = waitF { s with name := some T } q n c := by
  funext y
  unfold waitF
  by_cases h : y = 76
  · subst h; rfl
  · simp [h]
theorem put_link (s : RS) (q : Option Addr) (n c : Nat) (T : List UInt8) : (fun y => if y = 75 then some (Value.agg #[.string (str T), .slice none 0 0]) else waitF s q n c y) = waitF { s with link := some T } q n c := by
  funext y
  unfold waitF
  by_cases h : y = 75
  · subst h; rfl
  · simp [h]
theorem put_own (s : RS) (q q' : Option Addr) (n c n' c' : Nat) (rs : RecL) : (fun y => if y = 120 then some (Value.agg #[.string ⟨#[]⟩, .slice q' n' c']) else waitF s q n c y) = waitF { s with hasX := true, own := rs } q' n' c' := by
  funext y
  unfold waitF
  by_cases h : y = 120
  · subst h; rfl
  · simp [h]
set_option maxHeartbeats 4000000 in
theorem ext_name (hr : Rd w0 w K a s mb v xs q n c) (h : HeadV) (hw : waitF s q n c h.kind = none) (k : Nat) (hk0 : h.size = (k : Int)) (hz : k ≤ 1048576) (X : List UInt8) (hX : (K.S.bs.drop a).take k = X) (hl : a + padN k ≤ K.S.n) (hkd : h.kind = 76) :
    Calls Tryz.prog 53 #[.pointer (some ⟨K.r, 0, none⟩), .agg (headC h)] w fun e w' => e = .returned (.int .i64 0) ∧ Left w0 K (a + padN k) { s with name := some (untilB X) } w' := by
  have HXL : Hid (X.length = k) := Lib.hid (by
    obtain ⟨t, hs⟩ := hr.src
    have := padN_ge k
    have := hs.len
    rw [← hX, List.length_take, List.length_drop]; omega)
  have HBR := Lib.hid (And.intro hX hl)
  have HKL := Lib.hid hz
  have HSZ := Lib.hid hk0
  have hlarge : ¬ (1048576 : Int) < (k : Int) := by omega
  clear hl hX hk0 hz
  have HKD := Lib.hid hkd
  clear hkd
  have HR := Lib.hid hr
  obtain ⟨kn, hkn⟩ : ∃ kn : Int, (h.kind.toNat : Int) = kn := ⟨_, rfl⟩
  obtain ⟨W1, hW1⟩ : ∃ W1, w.alloc (.cells (headC h) 57) = W1 := ⟨_, rfl⟩
  have hB1 : Below w.heap.size w W1 := by rw [← hW1]; exact (Below.refl _ w).alloc (Nat.le_refl _) _
  have b1 : Blk W1 w.heap.size 57 (headC h) := by rw [← hW1]; exact Blk.new w _ _
  have R1 := hr.below hB1
  have hB2 : Below w.heap.size w (W1.alloc (.cells #[.string ⟨#[]⟩, .slice none 0 0] 133)) := hB1.alloc hB1.size _
  have R2 := hr.below hB2
  have l1 := look_ext (R1.idle ((Kept.refl noneB _).drew)).map h.kind kn hkn
  have l2 := look_ext (R2.idle ((Kept.refl noneB _).drew)).map h.kind kn hkn
  rw [hw] at l1 l2
  simp only [Option.getD_none, Option.isSome_none] at l1 l2
  have x2 := R1.c2
  have k2 := b1.cell 2
  simp only [headC, List.getElem?_toArray, List.getElem?_cons_zero, List.getElem?_cons_succ, hkn] at k2
  have y2 := R2.c2
  have j2 := (b1.alloc (.cells #[.string ⟨#[]⟩, .slice none 0 0] 133)).cell 2
  simp only [headC, List.getElem?_toArray, List.getElem?_cons_zero, List.getElem?_cons_succ, hkn] at j2
  have HB1 := Lib.hid hB1
  have HX := Lib.hid b1
  have HKN := Lib.hid hkn
  clear hr hw hkn R1 R2 b1 hB1 hB2
  go_enter Tryz.func53, Tryz.ntmps53
  go_upto_region 1 with fail
  clear hW1
  go_cut [5, 6] from 13 to 22 (fun s5 s6 wx => s5 = .pointer (some ⟨W1.heap.size, 0, none⟩) ∧ s6 = .bool false ∧ wx = (W1.alloc (.cells #[.string ⟨#[]⟩, .slice none 0 0] 133)).drew)
  case first =>
    go_region
    all_goals (go_wp2; go_meet; exact ⟨rfl, rfl, rfl⟩)
  case rest =>
    obtain ⟨rfl, rfl, rfl⟩ := hcut
    clear l1 l2 x2 k2 y2 j2
    have hB2 : Below w.heap.size w (W1.alloc (.cells #[.string ⟨#[]⟩, .slice none 0 0] 133)).drew := ((HB1.out.alloc HB1.out.size _)).drew
    have HX2 : Hid (Blk (W1.alloc (.cells #[.string ⟨#[]⟩, .slice none 0 0] 133)).drew w.heap.size 57 (headC h)) := Lib.hid ((HX.out.alloc _).drew)
    obtain ⟨W2, hW2⟩ : ∃ W2, (W1.alloc (.cells #[.string ⟨#[]⟩, .slice none 0 0] 133)).drew = W2 := ⟨_, rfl⟩
    rw [hW2] at hB2 HX2 ⊢
    clear hW2
    have HB2 := Lib.hid hB2
    have HR2 := Lib.hid (HR.out.below hB2)
    clear hB2 HB1 HX
    have x0 := HR2.out.c0
    have z7 := HX2.out.cell 7
    simp only [headC, List.getElem?_toArray, List.getElem?_cons_zero, List.getElem?_cons_succ, HSZ.out] at z7
    have hRd := HR2.out.idle ((Kept.refl noneB W2).drew)
    obtain ⟨t, hs⟩ := hRd.src
    have hne : w.heap.size ≠ K.g := by
      obtain ⟨t', hs'⟩ := HR.out.src
      have := hs'.lt
      omega
    have HRD := Lib.hid hRd
    have HNE := Lib.hid hne
    have hB := body_ok W2.drew K.g a t K.S hs hRd.off k HKL.out X HBR.out.1 HBR.out.2
    clear hs hRd hne
    go_upto_region 6 with fail
    go_region_held_law (fun w' => w'.cell? ⟨K.r, 0, none⟩ = some (.pointer (some ⟨K.g, 0, none⟩)) ∧ w'.cell? ⟨w.heap.size, 7, none⟩ = some (.int .i64 (k : Int))) (first | exact ⟨x0, z7⟩ | exact hS3)
      (first
        | (go_at_call 79
           refine hB.mono ?_
           rintro e w3 ⟨p, t', rfl, h2, h3, h4, h5⟩
           have H3 := Lib.hid (HRD.out.moved h5 ⟨t', h4⟩)
           have HX3 : Hid (Blk w3 w.heap.size 57 (headC h)) := Lib.hid ((HX2.out.drew).keptS h5 HNE.out)
           have HB3 := Lib.hid (And.intro h2 h3)
           have hS3 : w3.cell? ⟨K.r, 0, none⟩ = some (.pointer (some ⟨K.g, 0, none⟩)) ∧ w3.cell? ⟨w.heap.size, 7, none⟩ = some (.int .i64 (k : Int)) := ⟨H3.out.c0, by have := HX3.out.cell 7; simp only [headC, List.getElem?_toArray, List.getElem?_cons_zero, List.getElem?_cons_succ, HSZ.out] at this; exact this⟩
           clear h2 h3 h4 h5))
    clear hB hS3 x0 z7
    have k3 := HX3.out.cell 2
    simp only [headC, List.getElem?_toArray, List.getElem?_cons_zero, List.getElem?_cons_succ, HKN.out] at k3
    obtain rfl : kn = 76 := by rw [← HKN.out, HKD.out]; rfl
    go_upto_region 10 with fail
    go_wp2_with fail
    refine (cutP_any p k w3.heap.size X _ HXL.out (by have := HKL.out; omega) (HB3.out.1.alloc _) (Blk.cell (Blk.new w3 5 #[.int .u8 0]) 0)).mono ?_
    rintro e w4 ⟨v2, v3, rfl, hk4⟩
    have hb4 : Below w3.heap.size w3 w4 := (Kept.trans ((Kept.refl noneB w3).alloc _) hk4).below (Nat.le_refl _) (fun _ h => h.elim)
    have H4 := Lib.hid (H3.out.below hb4)
    have HX4 : Hid (Blk w4 w.heap.size 57 (headC h)) := Lib.hid (HX3.out.below hb4 HX3.out.lt)
    have hB4 : BAt w4 p (untilB X).length (untilB X) := by
      have h1 := (HB3.out.1.below hb4).take (k := (untilB X).length) (by rw [← HXL.out]; exact (until_le X).1)
      rwa [(until_le X).2] at h1
    have HB4 := Lib.hid hB4
    clear hk4 hb4 hB4 k3
    go_upto_region 11 with fail
    have k4 := HX4.out.cell 2
    simp only [headC, List.getElem?_toArray, List.getElem?_cons_zero, List.getElem?_cons_succ, HKN.out] at k4
    have x4 := H4.out.c2
    have cv4 : (convert 22 9 (.slice p (untilB X).length k)).run Tryz.prog w4 = .ok (.string (str (untilB X))) w4 := conv_at HB4.out rfl _ _ _ Tryz.underlying22 Tryz.underlying5 Tryz.underlying9 _
    have cv4d : (convert 22 9 (.slice p (untilB X).length k)).run Tryz.prog w4.drew = .ok (.string (str (untilB X))) w4.drew := conv_at (HB4.out.below ((Below.refl _ _).drew)) rfl _ _ _ Tryz.underlying22 Tryz.underlying5 Tryz.underlying9 _
    go_still_tail 9, (by kernel_rfl)
    refine wpList_putK (K := u8K) rfl (.tmp 58) (.tmp 60) (.tmp 63) rfl Tryz.underlying68 Tryz.underlying5 K.mw (H4.out.idle ((Kept.refl noneB w4).drew)).map rfl 76 rfl (.agg #[.string (str (untilB X)), .slice none 0 0]) rfl ?_
    intro w5 hm5 hk5 hs5
    have HM := Lib.hid (And.intro hm5 (And.intro hk5 hs5))
    clear hm5 hk5 hs5
    go_wp2
    go_ret
    exact ⟨rfl, mb, v, xs, q, n, c, (H4.out.idle ((Kept.refl noneB w4).drew)).waits HM.out.2.1.out (by rw [← put_name]; exact HM.out.1.out) (H4.out.idle ((Kept.refl noneB w4).drew)).own rfl rfl H4.out.own0 H4.out.ol (fun t ht => by cases ht; have := (until_le X).1; rw [HXL.out] at this; have := HKL.out; omega) H4.out.ll⟩
set_option maxHeartbeats 4000000 in
theorem ext_link (hr : Rd w0 w K a s mb v xs q n c) (h : HeadV) (hw : waitF s q n c h.kind = none) (k : Nat) (hk0 : h.size = (k : Int)) (hz : k ≤ 1048576) (X : List UInt8) (hX : (K.S.bs.drop a).take k = X) (hl : a + padN k ≤ K.S.n) (hkd : h.kind = 75) :
    Calls Tryz.prog 53 #[.pointer (some ⟨K.r, 0, none⟩), .agg (headC h)] w fun e w' => e = .returned (.int .i64 0) ∧ Left w0 K (a + padN k) { s with link := some (untilB X) } w' := by
  have HXL : Hid (X.length = k) := Lib.hid (by
    obtain ⟨t, hs⟩ := hr.src
    have := padN_ge k
    have := hs.len
    rw [← hX, List.length_take, List.length_drop]; omega)
  have HBR := Lib.hid (And.intro hX hl)
  have HKL := Lib.hid hz
  have HSZ := Lib.hid hk0
  have hlarge : ¬ (1048576 : Int) < (k : Int) := by omega
  clear hl hX hk0 hz
  have HKD := Lib.hid hkd
  clear hkd
  have HR := Lib.hid hr
  obtain ⟨kn, hkn⟩ : ∃ kn : Int, (h.kind.toNat : Int) = kn := ⟨_, rfl⟩
  obtain ⟨W1, hW1⟩ : ∃ W1, w.alloc (.cells (headC h) 57) = W1 := ⟨_, rfl⟩
  have hB1 : Below w.heap.size w W1 := by rw [← hW1]; exact (Below.refl _ w).alloc (Nat.le_refl _) _
  have b1 : Blk W1 w.heap.size 57 (headC h) := by rw [← hW1]; exact Blk.new w _ _
  have R1 := hr.below hB1
  have hB2 : Below w.heap.size w (W1.alloc (.cells #[.string ⟨#[]⟩, .slice none 0 0] 133)) := hB1.alloc hB1.size _
  have R2 := hr.below hB2
  have l1 := look_ext (R1.idle ((Kept.refl noneB _).drew)).map h.kind kn hkn
  have l2 := look_ext (R2.idle ((Kept.refl noneB _).drew)).map h.kind kn hkn
  rw [hw] at l1 l2
  simp only [Option.getD_none, Option.isSome_none] at l1 l2
  have x2 := R1.c2
  have k2 := b1.cell 2
  simp only [headC, List.getElem?_toArray, List.getElem?_cons_zero, List.getElem?_cons_succ, hkn] at k2
  have y2 := R2.c2
  have j2 := (b1.alloc (.cells #[.string ⟨#[]⟩, .slice none 0 0] 133)).cell 2
  simp only [headC, List.getElem?_toArray, List.getElem?_cons_zero, List.getElem?_cons_succ, hkn] at j2
  have HB1 := Lib.hid hB1
  have HX := Lib.hid b1
  have HKN := Lib.hid hkn
  clear hr hw hkn R1 R2 b1 hB1 hB2
  go_enter Tryz.func53, Tryz.ntmps53
  go_upto_region 1 with fail
  clear hW1
  go_cut [5, 6] from 13 to 22 (fun s5 s6 wx => s5 = .pointer (some ⟨W1.heap.size, 0, none⟩) ∧ s6 = .bool false ∧ wx = (W1.alloc (.cells #[.string ⟨#[]⟩, .slice none 0 0] 133)).drew)
  case first =>
    go_region
    all_goals (go_wp2; go_meet; exact ⟨rfl, rfl, rfl⟩)
  case rest =>
    obtain ⟨rfl, rfl, rfl⟩ := hcut
    clear l1 l2 x2 k2 y2 j2
    have hB2 : Below w.heap.size w (W1.alloc (.cells #[.string ⟨#[]⟩, .slice none 0 0] 133)).drew := ((HB1.out.alloc HB1.out.size _)).drew
    have HX2 : Hid (Blk (W1.alloc (.cells #[.string ⟨#[]⟩, .slice none 0 0] 133)).drew w.heap.size 57 (headC h)) := Lib.hid ((HX.out.alloc _).drew)
    obtain ⟨W2, hW2⟩ : ∃ W2, (W1.alloc (.cells #[.string ⟨#[]⟩, .slice none 0 0] 133)).drew = W2 := ⟨_, rfl⟩
    rw [hW2] at hB2 HX2 ⊢
    clear hW2
    have HB2 := Lib.hid hB2
    have HR2 := Lib.hid (HR.out.below hB2)
    clear hB2 HB1 HX
    have x0 := HR2.out.c0
    have z7 := HX2.out.cell 7
    simp only [headC, List.getElem?_toArray, List.getElem?_cons_zero, List.getElem?_cons_succ, HSZ.out] at z7
    have hRd := HR2.out.idle ((Kept.refl noneB W2).drew)
    obtain ⟨t, hs⟩ := hRd.src
    have hne : w.heap.size ≠ K.g := by
      obtain ⟨t', hs'⟩ := HR.out.src
      have := hs'.lt
      omega
    have HRD := Lib.hid hRd
    have HNE := Lib.hid hne
    have hB := body_ok W2.drew K.g a t K.S hs hRd.off k HKL.out X HBR.out.1 HBR.out.2
    clear hs hRd hne
    go_upto_region 6 with fail
    go_region_held_law (fun w' => w'.cell? ⟨K.r, 0, none⟩ = some (.pointer (some ⟨K.g, 0, none⟩)) ∧ w'.cell? ⟨w.heap.size, 7, none⟩ = some (.int .i64 (k : Int))) (first | exact ⟨x0, z7⟩ | exact hS3)
      (first
        | (go_at_call 79
           refine hB.mono ?_
           rintro e w3 ⟨p, t', rfl, h2, h3, h4, h5⟩
           have H3 := Lib.hid (HRD.out.moved h5 ⟨t', h4⟩)
           have HX3 : Hid (Blk w3 w.heap.size 57 (headC h)) := Lib.hid ((HX2.out.drew).keptS h5 HNE.out)
           have HB3 := Lib.hid (And.intro h2 h3)
           have hS3 : w3.cell? ⟨K.r, 0, none⟩ = some (.pointer (some ⟨K.g, 0, none⟩)) ∧ w3.cell? ⟨w.heap.size, 7, none⟩ = some (.int .i64 (k : Int)) := ⟨H3.out.c0, by have := HX3.out.cell 7; simp only [headC, List.getElem?_toArray, List.getElem?_cons_zero, List.getElem?_cons_succ, HSZ.out] at this; exact this⟩
           clear h2 h3 h4 h5))
    clear hB hS3 x0 z7
    have k3 := HX3.out.cell 2
    simp only [headC, List.getElem?_toArray, List.getElem?_cons_zero, List.getElem?_cons_succ, HKN.out] at k3
    obtain rfl : kn = 75 := by rw [← HKN.out, HKD.out]; rfl
    go_upto_region 10 with fail
    go_wp2_with fail
    refine (cutP_any p k w3.heap.size X _ HXL.out (by have := HKL.out; omega) (HB3.out.1.alloc _) (Blk.cell (Blk.new w3 5 #[.int .u8 0]) 0)).mono ?_
    rintro e w4 ⟨v2, v3, rfl, hk4⟩
    have hb4 : Below w3.heap.size w3 w4 := (Kept.trans ((Kept.refl noneB w3).alloc _) hk4).below (Nat.le_refl _) (fun _ h => h.elim)
    have H4 := Lib.hid (H3.out.below hb4)
    have HX4 : Hid (Blk w4 w.heap.size 57 (headC h)) := Lib.hid (HX3.out.below hb4 HX3.out.lt)
    have hB4 : BAt w4 p (untilB X).length (untilB X) := by
      have h1 := (HB3.out.1.below hb4).take (k := (untilB X).length) (by rw [← HXL.out]; exact (until_le X).1)
      rwa [(until_le X).2] at h1
    have HB4 := Lib.hid hB4
    clear hk4 hb4 hB4 k3
    go_upto_region 11 with fail
    have k4 := HX4.out.cell 2
    simp only [headC, List.getElem?_toArray, List.getElem?_cons_zero, List.getElem?_cons_succ, HKN.out] at k4
    have x4 := H4.out.c2
    have cv4 : (convert 22 9 (.slice p (untilB X).length k)).run Tryz.prog w4 = .ok (.string (str (untilB X))) w4 := conv_at HB4.out rfl _ _ _ Tryz.underlying22 Tryz.underlying5 Tryz.underlying9 _
    have cv4d : (convert 22 9 (.slice p (untilB X).length k)).run Tryz.prog w4.drew = .ok (.string (str (untilB X))) w4.drew := conv_at (HB4.out.below ((Below.refl _ _).drew)) rfl _ _ _ Tryz.underlying22 Tryz.underlying5 Tryz.underlying9 _
    go_still_tail 9, (by kernel_rfl)
    refine wpList_putK (K := u8K) rfl (.tmp 58) (.tmp 60) (.tmp 63) rfl Tryz.underlying68 Tryz.underlying5 K.mw (H4.out.idle ((Kept.refl noneB w4).drew)).map rfl 75 rfl (.agg #[.string (str (untilB X)), .slice none 0 0]) rfl ?_
    intro w5 hm5 hk5 hs5
    have HM := Lib.hid (And.intro hm5 (And.intro hk5 hs5))
    clear hm5 hk5 hs5
    go_wp2
    go_ret
    exact ⟨rfl, mb, v, xs, q, n, c, (H4.out.idle ((Kept.refl noneB w4).drew)).waits HM.out.2.1.out (by rw [← put_link]; exact HM.out.1.out) (H4.out.idle ((Kept.refl noneB w4).drew)).own rfl rfl H4.out.own0 H4.out.ol H4.out.nl (fun t ht => by cases ht; have := (until_le X).1; rw [HXL.out] at this; have := HKL.out; omega)⟩
end
end Go.Proofs.YtdjedimjhogdoaaGreatDoor.Mem
end
section
namespace Go.Proofs.YtdjedimjhogdoaaGreatDoor.Mem
open Go.ChangeShapes Go.WideShapes Go.ChangeAt Go.RowKit Go.Proofs.YtdjedimjhogdoaaGreatDoor.Base Go.Proofs.YtdjedimjhogdoaaGreatDoor.Byt Go.Proofs.YtdjedimjhogdoaaGreatDoor.Txt Go.Proofs.YtdjedimjhogdoaaGreatDoor.Bk Go.Proofs.YtdjedimjhogdoaaGreatDoor.Mk Go.Proofs.YtdjedimjhogdoaaGreatDoor.Block Go.Proofs.YtdjedimjhogdoaaGreatDoor.Hp Go.Proofs.YtdjedimjhogdoaaGreatDoor.Head Go.Proofs.YtdjedimjhogdoaaGreatDoor.Attr Go.Proofs.YtdjedimjhogdoaaGreatDoor.Rec Go.Lib Go.Shelf
set_option linter.unusedVariables false
set_option maxRecDepth 100000
section
variable {w0 w w' : World} {K : RK} {a : Nat} {s : RS} {mb : Option Nat} {v : Value} {xs : List MP} {q : Option Addr} {n c : Nat}
set_option maxHeartbeats 4000000 in
theorem ext_recbad (hr : Rd w0 w K a s mb v xs q n c) (h : HeadV) (hw : waitF s q n c h.kind = none) (k : Nat) (hk0 : h.size = (k : Int)) (hz : k ≤ 1048576) (X : List UInt8) (hX : (K.S.bs.drop a).take k = X) (hl : a + padN k ≤ K.S.n) (E : Int) (hE : (recsD 5 9 X).2 = E) (hE0 : E ≠ 0) (hnk : (h.kind.toNat : Int) ≠ 76 ∧ (h.kind.toNat : Int) ≠ 75) (hN : Need w0) :
    Calls Tryz.prog 53 #[.pointer (some ⟨K.r, 0, none⟩), .agg (headC h)] w fun e w' => e = .returned (.int .i64 E) ∧ Below w0.heap.size w0 w' := by
  have HXL : Hid (X.length = k) := Lib.hid (by
    obtain ⟨t, hs⟩ := hr.src
    have := padN_ge k
    have := hs.len
    rw [← hX, List.length_take, List.length_drop]; omega)
  have HBR := Lib.hid (And.intro hX hl)
  have HKL := Lib.hid hz
  have HSZ := Lib.hid hk0
  have hlarge : ¬ (1048576 : Int) < (k : Int) := by omega
  clear hl hX hk0 hz
  have HEE := Lib.hid hE
  have HE0 := Lib.hid hE0
  have HNK := Lib.hid hnk
  have HND := Lib.hid hN
  clear hE hE0 hnk hN
  have HR := Lib.hid hr
  obtain ⟨kn, hkn⟩ : ∃ kn : Int, (h.kind.toNat : Int) = kn := ⟨_, rfl⟩
  obtain ⟨W1, hW1⟩ : ∃ W1, w.alloc (.cells (headC h) 57) = W1 := ⟨_, rfl⟩
  have hB1 : Below w.heap.size w W1 := by rw [← hW1]; exact (Below.refl _ w).alloc (Nat.le_refl _) _
  have b1 : Blk W1 w.heap.size 57 (headC h) := by rw [← hW1]; exact Blk.new w _ _
  have R1 := hr.below hB1
  have hB2 : Below w.heap.size w (W1.alloc (.cells #[.string ⟨#[]⟩, .slice none 0 0] 133)) := hB1.alloc hB1.size _
  have R2 := hr.below hB2
  have l1 := look_ext (R1.idle ((Kept.refl noneB _).drew)).map h.kind kn hkn
  have l2 := look_ext (R2.idle ((Kept.refl noneB _).drew)).map h.kind kn hkn
  rw [hw] at l1 l2
  simp only [Option.getD_none, Option.isSome_none] at l1 l2
  have x2 := R1.c2
  have k2 := b1.cell 2
  simp only [headC, List.getElem?_toArray, List.getElem?_cons_zero, List.getElem?_cons_succ, hkn] at k2
  have y2 := R2.c2
  have j2 := (b1.alloc (.cells #[.string ⟨#[]⟩, .slice none 0 0] 133)).cell 2
  simp only [headC, List.getElem?_toArray, List.getElem?_cons_zero, List.getElem?_cons_succ, hkn] at j2
  have HB1 := Lib.hid hB1
  have HX := Lib.hid b1
  have HKN := Lib.hid hkn
  clear hr hw hkn R1 R2 b1 hB1 hB2
  go_enter Tryz.func53, Tryz.ntmps53
  go_upto_region 1 with fail
  clear hW1
  go_cut [5, 6] from 13 to 22 (fun s5 s6 wx => s5 = .pointer (some ⟨W1.heap.size, 0, none⟩) ∧ s6 = .bool false ∧ wx = (W1.alloc (.cells #[.string ⟨#[]⟩, .slice none 0 0] 133)).drew)
  case first =>
    go_region
    all_goals (go_wp2; go_meet; exact ⟨rfl, rfl, rfl⟩)
  case rest =>
    obtain ⟨rfl, rfl, rfl⟩ := hcut
    clear l1 l2 x2 k2 y2 j2
    have hB2 : Below w.heap.size w (W1.alloc (.cells #[.string ⟨#[]⟩, .slice none 0 0] 133)).drew := ((HB1.out.alloc HB1.out.size _)).drew
    have HX2 : Hid (Blk (W1.alloc (.cells #[.string ⟨#[]⟩, .slice none 0 0] 133)).drew w.heap.size 57 (headC h)) := Lib.hid ((HX.out.alloc _).drew)
    obtain ⟨W2, hW2⟩ : ∃ W2, (W1.alloc (.cells #[.string ⟨#[]⟩, .slice none 0 0] 133)).drew = W2 := ⟨_, rfl⟩
    rw [hW2] at hB2 HX2 ⊢
    clear hW2
    have HB2 := Lib.hid hB2
    have HR2 := Lib.hid (HR.out.below hB2)
    clear hB2 HB1 HX
    have x0 := HR2.out.c0
    have z7 := HX2.out.cell 7
    simp only [headC, List.getElem?_toArray, List.getElem?_cons_zero, List.getElem?_cons_succ, HSZ.out] at z7
    have hRd := HR2.out.idle ((Kept.refl noneB W2).drew)
    obtain ⟨t, hs⟩ := hRd.src
    have hne : w.heap.size ≠ K.g := by
      obtain ⟨t', hs'⟩ := HR.out.src
      have := hs'.lt
      omega
    have HRD := Lib.hid hRd
    have HNE := Lib.hid hne
    have hB := body_ok W2.drew K.g a t K.S hs hRd.off k HKL.out X HBR.out.1 HBR.out.2
    clear hs hRd hne
    go_upto_region 6 with fail
    go_region_held_law (fun w' => w'.cell? ⟨K.r, 0, none⟩ = some (.pointer (some ⟨K.g, 0, none⟩)) ∧ w'.cell? ⟨w.heap.size, 7, none⟩ = some (.int .i64 (k : Int))) (first | exact ⟨x0, z7⟩ | exact hS3)
      (first
        | (go_at_call 79
           refine hB.mono ?_
           rintro e w3 ⟨p, t', rfl, h2, h3, h4, h5⟩
           have H3 := Lib.hid (HRD.out.moved h5 ⟨t', h4⟩)
           have HX3 : Hid (Blk w3 w.heap.size 57 (headC h)) := Lib.hid ((HX2.out.drew).keptS h5 HNE.out)
           have HB3 := Lib.hid (And.intro h2 h3)
           have hS3 : w3.cell? ⟨K.r, 0, none⟩ = some (.pointer (some ⟨K.g, 0, none⟩)) ∧ w3.cell? ⟨w.heap.size, 7, none⟩ = some (.int .i64 (k : Int)) := ⟨H3.out.c0, by have := HX3.out.cell 7; simp only [headC, List.getElem?_toArray, List.getElem?_cons_zero, List.getElem?_cons_succ, HSZ.out] at this; exact this⟩
           clear h2 h3 h4 h5))
    clear hB hS3 x0 z7
    have k3 := HX3.out.cell 2
    simp only [headC, List.getElem?_toArray, List.getElem?_cons_zero, List.getElem?_cons_succ, HKN.out] at k3
    have e1 : (kn == 76) = false := by have := HNK.out.1; rw [HKN.out] at this; simpa using this
    have e2 : (kn == 75) = false := by have := HNK.out.2; rw [HKN.out] at this; simpa using this
    go_upto_region 13 with fail
    go_wp2_with fail
    refine (recParse_any p k k X w3 HXL.out (Nat.le_refl _) (by have := HKL.out; omega) HB3.out.1 (H3.out.need HND.out)).mono ?_
    rintro e w4 ⟨p4, c4, rfl, _, _, hr4, hb4⟩
    obtain ⟨⟨rs, er⟩, hrs⟩ : ∃ x, recsD 5 9 X = x := ⟨_, rfl⟩
    have hlen := recsD_len 5 9 X
    rw [hrs] at hr4 hlen
    simp only [hrs]
    rw [HXL.out] at hlen
    have HRS : Hid (recsD 5 9 X = (rs, er)) := Lib.hid hrs
    obtain ⟨rl, hrl⟩ : ∃ rl, rs.length = rl := ⟨_, rfl⟩
    simp only [hrl] at hr4 ⊢
    have H4 := Lib.hid (H3.out.below hb4)
    have HX4 : Hid (Blk w4 w.heap.size 57 (headC h)) := Lib.hid (HX3.out.below hb4 HX3.out.lt)
    have HR4 := Lib.hid hr4
    have HLN := Lib.hid hlen
    have HRLN := Lib.hid hrl
    clear hr4 hlen hb4 hrs hrl k3
    obtain rfl : er = E := by have := HEE.out; rw [HRS.out] at this; exact this
    have hne0 : (er != 0) = true := by simpa using HE0.out
    go_wp2
    go_ret
    exact ⟨rfl, H4.out.bel⟩
set_option maxHeartbeats 4000000 in
theorem ext_glob (hr : Rd w0 w K a s mb v xs q n c) (h : HeadV) (hw : waitF s q n c h.kind = none) (k : Nat) (hk0 : h.size = (k : Int)) (hz : k ≤ 1048576) (X : List UInt8) (hX : (K.S.bs.drop a).take k = X) (hl : a + padN k ≤ K.S.n) (R : RecL) (hR : recsD 5 9 X = (R, 0)) (hkd : h.kind = 103) (hN : Need w0) :
    Calls Tryz.prog 53 #[.pointer (some ⟨K.r, 0, none⟩), .agg (headC h)] w fun e w' => e = .returned (.int .i64 0) ∧ Left w0 K (a + padN k) { s with glob := s.glob ++ R } w' := by
  have HXL : Hid (X.length = k) := Lib.hid (by
    obtain ⟨t, hs⟩ := hr.src
    have := padN_ge k
    have := hs.len
    rw [← hX, List.length_take, List.length_drop]; omega)
  have HBR := Lib.hid (And.intro hX hl)
  have HKL := Lib.hid hz
  have HSZ := Lib.hid hk0
  have hlarge : ¬ (1048576 : Int) < (k : Int) := by omega
  clear hl hX hk0 hz
  have HEE := Lib.hid hR
  have HKD := Lib.hid hkd
  have HND := Lib.hid hN
  clear hR hkd hN
  have HR := Lib.hid hr
  obtain ⟨kn, hkn⟩ : ∃ kn : Int, (h.kind.toNat : Int) = kn := ⟨_, rfl⟩
  obtain ⟨W1, hW1⟩ : ∃ W1, w.alloc (.cells (headC h) 57) = W1 := ⟨_, rfl⟩
  have hB1 : Below w.heap.size w W1 := by rw [← hW1]; exact (Below.refl _ w).alloc (Nat.le_refl _) _
  have b1 : Blk W1 w.heap.size 57 (headC h) := by rw [← hW1]; exact Blk.new w _ _
  have R1 := hr.below hB1
  have hB2 : Below w.heap.size w (W1.alloc (.cells #[.string ⟨#[]⟩, .slice none 0 0] 133)) := hB1.alloc hB1.size _
  have R2 := hr.below hB2
  have l1 := look_ext (R1.idle ((Kept.refl noneB _).drew)).map h.kind kn hkn
  have l2 := look_ext (R2.idle ((Kept.refl noneB _).drew)).map h.kind kn hkn
  rw [hw] at l1 l2
  simp only [Option.getD_none, Option.isSome_none] at l1 l2
  have x2 := R1.c2
  have k2 := b1.cell 2
  simp only [headC, List.getElem?_toArray, List.getElem?_cons_zero, List.getElem?_cons_succ, hkn] at k2
  have y2 := R2.c2
  have j2 := (b1.alloc (.cells #[.string ⟨#[]⟩, .slice none 0 0] 133)).cell 2
  simp only [headC, List.getElem?_toArray, List.getElem?_cons_zero, List.getElem?_cons_succ, hkn] at j2
  have HB1 := Lib.hid hB1
  have HX := Lib.hid b1
  have HKN := Lib.hid hkn
  clear hr hw hkn R1 R2 b1 hB1 hB2
  go_enter Tryz.func53, Tryz.ntmps53
  go_upto_region 1 with fail
  clear hW1
  go_cut [5, 6] from 13 to 22 (fun s5 s6 wx => s5 = .pointer (some ⟨W1.heap.size, 0, none⟩) ∧ s6 = .bool false ∧ wx = (W1.alloc (.cells #[.string ⟨#[]⟩, .slice none 0 0] 133)).drew)
  case first =>
    go_region
    all_goals (go_wp2; go_meet; exact ⟨rfl, rfl, rfl⟩)
  case rest =>
    obtain ⟨rfl, rfl, rfl⟩ := hcut
    clear l1 l2 x2 k2 y2 j2
    have hB2 : Below w.heap.size w (W1.alloc (.cells #[.string ⟨#[]⟩, .slice none 0 0] 133)).drew := ((HB1.out.alloc HB1.out.size _)).drew
    have HX2 : Hid (Blk (W1.alloc (.cells #[.string ⟨#[]⟩, .slice none 0 0] 133)).drew w.heap.size 57 (headC h)) := Lib.hid ((HX.out.alloc _).drew)
    obtain ⟨W2, hW2⟩ : ∃ W2, (W1.alloc (.cells #[.string ⟨#[]⟩, .slice none 0 0] 133)).drew = W2 := ⟨_, rfl⟩
    rw [hW2] at hB2 HX2 ⊢
    clear hW2
    have HB2 := Lib.hid hB2
    have HR2 := Lib.hid (HR.out.below hB2)
    clear hB2 HB1 HX
    have x0 := HR2.out.c0
    have z7 := HX2.out.cell 7
    simp only [headC, List.getElem?_toArray, List.getElem?_cons_zero, List.getElem?_cons_succ, HSZ.out] at z7
    have hRd := HR2.out.idle ((Kept.refl noneB W2).drew)
    obtain ⟨t, hs⟩ := hRd.src
    have hne : w.heap.size ≠ K.g := by
      obtain ⟨t', hs'⟩ := HR.out.src
      have := hs'.lt
      omega
    have HRD := Lib.hid hRd
    have HNE := Lib.hid hne
    have hB := body_ok W2.drew K.g a t K.S hs hRd.off k HKL.out X HBR.out.1 HBR.out.2
    clear hs hRd hne
    go_upto_region 6 with fail
    go_region_held_law (fun w' => w'.cell? ⟨K.r, 0, none⟩ = some (.pointer (some ⟨K.g, 0, none⟩)) ∧ w'.cell? ⟨w.heap.size, 7, none⟩ = some (.int .i64 (k : Int))) (first | exact ⟨x0, z7⟩ | exact hS3)
      (first
        | (go_at_call 79
           refine hB.mono ?_
           rintro e w3 ⟨p, t', rfl, h2, h3, h4, h5⟩
           have H3 := Lib.hid (HRD.out.moved h5 ⟨t', h4⟩)
           have HX3 : Hid (Blk w3 w.heap.size 57 (headC h)) := Lib.hid ((HX2.out.drew).keptS h5 HNE.out)
           have HB3 := Lib.hid (And.intro h2 h3)
           have hS3 : w3.cell? ⟨K.r, 0, none⟩ = some (.pointer (some ⟨K.g, 0, none⟩)) ∧ w3.cell? ⟨w.heap.size, 7, none⟩ = some (.int .i64 (k : Int)) := ⟨H3.out.c0, by have := HX3.out.cell 7; simp only [headC, List.getElem?_toArray, List.getElem?_cons_zero, List.getElem?_cons_succ, HSZ.out] at this; exact this⟩
           clear h2 h3 h4 h5))
    clear hB hS3 x0 z7
    have k3 := HX3.out.cell 2
    simp only [headC, List.getElem?_toArray, List.getElem?_cons_zero, List.getElem?_cons_succ, HKN.out] at k3
    obtain rfl : kn = 103 := by rw [← HKN.out, HKD.out]; rfl
    go_upto_region 13 with fail
    go_wp2_with fail
    refine (recParse_any p k k X w3 HXL.out (Nat.le_refl _) (by have := HKL.out; omega) HB3.out.1 (H3.out.need HND.out)).mono ?_
    rintro e w4 ⟨p4, c4, rfl, _, _, hr4, hb4⟩
    obtain ⟨⟨rs, er⟩, hrs⟩ : ∃ x, recsD 5 9 X = x := ⟨_, rfl⟩
    have hlen := recsD_len 5 9 X
    rw [hrs] at hr4 hlen
    simp only [hrs]
    rw [HXL.out] at hlen
    have HRS : Hid (recsD 5 9 X = (rs, er)) := Lib.hid hrs
    obtain ⟨rl, hrl⟩ : ∃ rl, rs.length = rl := ⟨_, rfl⟩
    simp only [hrl] at hr4 ⊢
    have H4 := Lib.hid (H3.out.below hb4)
    have HX4 : Hid (Blk w4 w.heap.size 57 (headC h)) := Lib.hid (HX3.out.below hb4 HX3.out.lt)
    have HR4 := Lib.hid hr4
    have HLN := Lib.hid hlen
    have HRLN := Lib.hid hrl
    clear hr4 hlen hb4 hrs hrl k3
    obtain rfl : er = 0 := by have := HEE.out; rw [HRS.out] at this; exact congrArg Prod.snd this
    obtain rfl : rs = R := by have := HEE.out; rw [HRS.out] at this; exact congrArg Prod.fst this
    have k4 := HX4.out.cell 2
    simp only [headC, List.getElem?_toArray, List.getElem?_cons_zero, List.getElem?_cons_succ, HKN.out] at k4
    have x1 := H4.out.c1
    go_wp2_with fail
    refine (show Calls _ _ _ _ (GlobPost _ K.gs mb (lastD s.glob) rs) from global_any K.gs mb (lastD s.glob) p4 rl _ rs _ H4.out.st (by have := HLN.out.2; rw [HRLN.out] at this; have := HKL.out; omega) HR4.out).mono ?_
    rintro e w5 ⟨rfl, B, hs5, hk5, hB5⟩
    have F := Lib.hid (H4.out.globs hs5 hk5 hB5 (fun r hr => by have := HLN.out.1 r hr; have := HKL.out; omega))
    clear hs5 hk5 hB5 k4 x1
    go_wp2
    go_ret
    exact ⟨rfl, some B, v, xs, q, n, c, F.out⟩
set_option maxHeartbeats 4000000 in
theorem ext_own (hr : Rd w0 w K a s mb v xs q n c) (h : HeadV) (hw : waitF s q n c h.kind = none) (k : Nat) (hk0 : h.size = (k : Int)) (hz : k ≤ 1048576) (X : List UInt8) (hX : (K.S.bs.drop a).take k = X) (hl : a + padN k ≤ K.S.n) (R : RecL) (hR : recsD 5 9 X = (R, 0)) (hkd : h.kind = 120) (hN : Need w0) :
    Calls Tryz.prog 53 #[.pointer (some ⟨K.r, 0, none⟩), .agg (headC h)] w fun e w' => e = .returned (.int .i64 0) ∧ Left w0 K (a + padN k) { s with hasX := true, own := R } w' := by
  have HXL : Hid (X.length = k) := Lib.hid (by
    obtain ⟨t, hs⟩ := hr.src
    have := padN_ge k
    have := hs.len
    rw [← hX, List.length_take, List.length_drop]; omega)
  have HBR := Lib.hid (And.intro hX hl)
  have HKL := Lib.hid hz
  have HSZ := Lib.hid hk0
  have hlarge : ¬ (1048576 : Int) < (k : Int) := by omega
  clear hl hX hk0 hz
  have HEE := Lib.hid hR
  have HKD := Lib.hid hkd
  have HND := Lib.hid hN
  clear hR hkd hN
  have HR := Lib.hid hr
  obtain ⟨kn, hkn⟩ : ∃ kn : Int, (h.kind.toNat : Int) = kn := ⟨_, rfl⟩
  obtain ⟨W1, hW1⟩ : ∃ W1, w.alloc (.cells (headC h) 57) = W1 := ⟨_, rfl⟩
  have hB1 : Below w.heap.size w W1 := by rw [← hW1]; exact (Below.refl _ w).alloc (Nat.le_refl _) _
  have b1 : Blk W1 w.heap.size 57 (headC h) := by rw [← hW1]; exact Blk.new w _ _
  have R1 := hr.below hB1
  have hB2 : Below w.heap.size w (W1.alloc (.cells #[.string ⟨#[]⟩, .slice none 0 0] 133)) := hB1.alloc hB1.size _
  have R2 := hr.below hB2
  have l1 := look_ext (R1.idle ((Kept.refl noneB _).drew)).map h.kind kn hkn
  have l2 := look_ext (R2.idle ((Kept.refl noneB _).drew)).map h.kind kn hkn
  rw [hw] at l1 l2
  simp only [Option.getD_none, Option.isSome_none] at l1 l2
  have x2 := R1.c2
  have k2 := b1.cell 2
  simp only [headC, List.getElem?_toArray, List.getElem?_cons_zero, List.getElem?_cons_succ, hkn] at k2
  have y2 := R2.c2
  have j2 := (b1.alloc (.cells #[.string ⟨#[]⟩, .slice none 0 0] 133)).cell 2
  simp only [headC, List.getElem?_toArray, List.getElem?_cons_zero, List.getElem?_cons_succ, hkn] at j2
  have HB1 := Lib.hid hB1
  have HX := Lib.hid b1
  have HKN := Lib.hid hkn
  clear hr hw hkn R1 R2 b1 hB1 hB2
  go_enter Tryz.func53, Tryz.ntmps53
  go_upto_region 1 with fail
  clear hW1
  go_cut [5, 6] from 13 to 22 (fun s5 s6 wx => s5 = .pointer (some ⟨W1.heap.size, 0, none⟩) ∧ s6 = .bool false ∧ wx = (W1.alloc (.cells #[.string ⟨#[]⟩, .slice none 0 0] 133)).drew)
  case first =>
    go_region
    all_goals (go_wp2; go_meet; exact ⟨rfl, rfl, rfl⟩)
  case rest =>
    obtain ⟨rfl, rfl, rfl⟩ := hcut
    clear l1 l2 x2 k2 y2 j2
    have hB2 : Below w.heap.size w (W1.alloc (.cells #[.string ⟨#[]⟩, .slice none 0 0] 133)).drew := ((HB1.out.alloc HB1.out.size _)).drew
    have HX2 : Hid (Blk (W1.alloc (.cells #[.string ⟨#[]⟩, .slice none 0 0] 133)).drew w.heap.size 57 (headC h)) := Lib.hid ((HX.out.alloc _).drew)
    obtain ⟨W2, hW2⟩ : ∃ W2, (W1.alloc (.cells #[.string ⟨#[]⟩, .slice none 0 0] 133)).drew = W2 := ⟨_, rfl⟩
    rw [hW2] at hB2 HX2 ⊢
    clear hW2
    have HB2 := Lib.hid hB2
    have HR2 := Lib.hid (HR.out.below hB2)
    clear hB2 HB1 HX
    have x0 := HR2.out.c0
    have z7 := HX2.out.cell 7
    simp only [headC, List.getElem?_toArray, List.getElem?_cons_zero, List.getElem?_cons_succ, HSZ.out] at z7
    have hRd := HR2.out.idle ((Kept.refl noneB W2).drew)
    obtain ⟨t, hs⟩ := hRd.src
    have hne : w.heap.size ≠ K.g := by
      obtain ⟨t', hs'⟩ := HR.out.src
      have := hs'.lt
      omega
    have HRD := Lib.hid hRd
    have HNE := Lib.hid hne
    have hB := body_ok W2.drew K.g a t K.S hs hRd.off k HKL.out X HBR.out.1 HBR.out.2
    clear hs hRd hne
    go_upto_region 6 with fail
    go_region_held_law (fun w' => w'.cell? ⟨K.r, 0, none⟩ = some (.pointer (some ⟨K.g, 0, none⟩)) ∧ w'.cell? ⟨w.heap.size, 7, none⟩ = some (.int .i64 (k : Int))) (first | exact ⟨x0, z7⟩ | exact hS3)
      (first
        | (go_at_call 79
           refine hB.mono ?_
           rintro e w3 ⟨p, t', rfl, h2, h3, h4, h5⟩
           have H3 := Lib.hid (HRD.out.moved h5 ⟨t', h4⟩)
           have HX3 : Hid (Blk w3 w.heap.size 57 (headC h)) := Lib.hid ((HX2.out.drew).keptS h5 HNE.out)
           have HB3 := Lib.hid (And.intro h2 h3)
           have hS3 : w3.cell? ⟨K.r, 0, none⟩ = some (.pointer (some ⟨K.g, 0, none⟩)) ∧ w3.cell? ⟨w.heap.size, 7, none⟩ = some (.int .i64 (k : Int)) := ⟨H3.out.c0, by have := HX3.out.cell 7; simp only [headC, List.getElem?_toArray, List.getElem?_cons_zero, List.getElem?_cons_succ, HSZ.out] at this; exact this⟩
           clear h2 h3 h4 h5))
    clear hB hS3 x0 z7
    have k3 := HX3.out.cell 2
    simp only [headC, List.getElem?_toArray, List.getElem?_cons_zero, List.getElem?_cons_succ, HKN.out] at k3
    obtain rfl : kn = 120 := by rw [← HKN.out, HKD.out]; rfl
    go_upto_region 13 with fail
    go_wp2_with fail
    refine (recParse_any p k k X w3 HXL.out (Nat.le_refl _) (by have := HKL.out; omega) HB3.out.1 (H3.out.need HND.out)).mono ?_
    rintro e w4 ⟨p4, c4, rfl, _, _, hr4, hb4⟩
    obtain ⟨⟨rs, er⟩, hrs⟩ : ∃ x, recsD 5 9 X = x := ⟨_, rfl⟩
    have hlen := recsD_len 5 9 X
    rw [hrs] at hr4 hlen
    simp only [hrs]
    rw [HXL.out] at hlen
    have HRS : Hid (recsD 5 9 X = (rs, er)) := Lib.hid hrs
    obtain ⟨rl, hrl⟩ : ∃ rl, rs.length = rl := ⟨_, rfl⟩
    simp only [hrl] at hr4 ⊢
    have H4 := Lib.hid (H3.out.below hb4)
    have HX4 : Hid (Blk w4 w.heap.size 57 (headC h)) := Lib.hid (HX3.out.below hb4 HX3.out.lt)
    have HR4 := Lib.hid hr4
    have HLN := Lib.hid hlen
    have HRLN := Lib.hid hrl
    clear hr4 hlen hb4 hrs hrl k3
    obtain rfl : er = 0 := by have := HEE.out; rw [HRS.out] at this; exact congrArg Prod.snd this
    obtain rfl : rs = R := by have := HEE.out; rw [HRS.out] at this; exact congrArg Prod.fst this
    have k4 := HX4.out.cell 2
    simp only [headC, List.getElem?_toArray, List.getElem?_cons_zero, List.getElem?_cons_succ, HKN.out] at k4
    go_upto_region 19 with fail
    have x4 := H4.out.c2
    go_still_tail 8, (by kernel_rfl)
    refine wpList_putK (K := u8K) rfl (.tmp 84) (.tmp 86) (.tmp 88) rfl Tryz.underlying68 Tryz.underlying5 K.mw (H4.out.idle ((Kept.refl noneB w4).drew)).map rfl 120 rfl (.agg #[.string ⟨#[]⟩, .slice p4 rl c4]) rfl ?_
    intro w5 hm5 hk5 hs5
    have HM := Lib.hid (And.intro hm5 (And.intro hk5 hs5))
    clear hm5 hk5 hs5
    go_wp2
    go_ret
    exact ⟨rfl, mb, v, xs, p4, rl, c4, (H4.out.idle ((Kept.refl noneB w4).drew)).waits HM.out.2.1.out (by rw [← put_own s q p4 n c rl c4 rs]; exact HM.out.1.out) (recsAt_kept HR4.out ((Kept.refl noneB w4).drew) (fun _ _ _ => id)) rfl rfl (fun h => by cases h) ⟨fun r hr => by have := HLN.out.1 r hr; have := HKL.out; omega, by show rs.length ≤ 1048576; have := HLN.out.2; have := HKL.out; omega⟩ H4.out.nl H4.out.ll⟩
end
end Go.Proofs.YtdjedimjhogdoaaGreatDoor.Mem
end
