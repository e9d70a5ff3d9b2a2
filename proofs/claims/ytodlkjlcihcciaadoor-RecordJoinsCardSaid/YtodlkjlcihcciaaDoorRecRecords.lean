/- The document's own Records, by contract: P6.1 of any bytes. Written by wip/tools/genrecs.py. -/
import Derived.Test.YtodlkjlcihcciaaDoorRecRow
namespace Go.Proofs.YtodlkjlcihcciaaDoor.Rec
open Go.ChangeShapes Go.WideShapes Go.ChangeAt Go.RowKit Go.Proofs.YtodlkjlcihcciaaDoor.Base Go.Proofs.YtodlkjlcihcciaaDoor.Byt Go.Proofs.YtodlkjlcihcciaaDoor.Txt Go.Proofs.YtodlkjlcihcciaaDoor.Path Go.Lib
set_option linter.unusedVariables false
set_option maxRecDepth 100000

theorem index_is (l : List UInt8) (c : UInt8) (i : Nat) (hi : i < l.length) (hn : ∀ j, j < i → l.getD j 0 ≠ c) (h : l.getD i 0 = c) : indexByte l c = i := by
  have e : l = l.take i ++ c :: l.drop (i + 1) := by
    have h2 : l[i] = c := by rw [← h, List.getD, List.getElem?_eq_getElem hi]; rfl
    rw [← h2, List.getElem_cons_drop, List.take_append_drop]
  have hc : (l.take i).contains c = false := by
    cases hh : (l.take i).contains c with
    | false => rfl
    | true =>
      obtain ⟨j, hj, he⟩ := List.mem_iff_getElem.1 (List.contains_iff_mem.1 hh)
      rw [List.length_take] at hj
      rw [List.getElem_take] at he
      exact absurd (by rw [List.getD, List.getElem?_eq_getElem (by omega), he]; rfl) (hn j (by omega))
  rw [e, index_first _ _ _ hc, List.length_take]
  omega
theorem index_not (l : List UInt8) (c : UInt8) (hn : ∀ j, j < l.length → l.getD j 0 ≠ c) : indexByte l c < 1 := by
  have h1 := index_has l c
  have hc : l.contains c = false := by
    cases hh : l.contains c with
    | false => rfl
    | true =>
      obtain ⟨j, hj, he⟩ := List.mem_iff_getElem.1 (List.contains_iff_mem.1 hh)
      exact absurd (by rw [List.getD, List.getElem?_eq_getElem hj, he]; rfl) (hn j hj)
  rw [hc, decide_eq_false_iff_not] at h1
  omega
theorem ext_data (S : ByteArray) (a b : Nat) : (S.extract a b).data.toList = (S.data.toList.drop a).take (b - a) := by
  rw [ByteArray.data_extract, Array.toList_extract, List.extract_eq_take_drop]
theorem ext_end (S : ByteArray) (a : Nat) : S.extract a S.size = str (S.data.toList.drop a) := by
  apply ByteArray.ext
  rw [← Array.toList_inj]
  show (S.extract a S.size).data.toList = _
  rw [ext_data]
  simp only [str]
  rw [List.take_of_length_le (by rw [List.length_drop, ← size_of]; exact Nat.le_refl _)]
theorem ext_str (S : ByteArray) (a b : Nat) : S.extract a b = str ((S.data.toList.drop a).take (b - a)) := by
  rw [← ext_data, str_of]
theorem recStep_go {R T : Int} {l : List UInt8} (h : ¬ (digN l < 1 ∨ 7 < digN l ∨ l.getD 0 0 = 48 ∨ digN l = l.length ∨ l.getD (digN l) 0 ≠ 32)) :
    (l.length < valL (l.take (digN l)) ∨ valL (l.take (digN l)) < digN l + 4 ∨ l.getD (valL (l.take (digN l)) - 1) 0 ≠ 10 → recStep R T l = .error R) ∧
    (¬ (l.length < valL (l.take (digN l)) ∨ valL (l.take (digN l)) < digN l + 4 ∨ l.getD (valL (l.take (digN l)) - 1) 0 ≠ 10) → ∀ line, line = (l.drop (digN l + 1)).take (valL (l.take (digN l)) - 1 - (digN l + 1)) →
      (indexByte line 61 < 1 → recStep R T l = .error R) ∧ (¬ indexByte line 61 < 1 → textD line = false → recStep R T l = .error T) ∧
      (¬ indexByte line 61 < 1 → textD line = true → recStep R T l = .ok (line.take (indexByte line 61).toNat, line.drop ((indexByte line 61).toNat + 1), valL (l.take (digN l))))) := by
  unfold recStep
  rw [if_neg h]
  refine ⟨fun h1 => if_pos h1, fun h1 line hl => ?_⟩
  rw [if_neg h1, ← hl]
  refine ⟨fun h2 => if_pos h2, fun h2 h3 => ?_, fun h2 h3 => ?_⟩
  · dsimp only; rw [if_neg h2, if_pos h3]
  · dsimp only; rw [if_neg h2, if_neg (by rw [h3]; simp)]
theorem slice_str (S : ByteArray) (a b : Nat) (hab : a + 1 ≤ b) (hb : b ≤ S.size) (w : World) :
    (Instr.slice 9 (.string S) (some (.int .i64 ((a : Int) + 1))) (some (.int .i64 (b : Int))) none).run Tryd.prog w = .ok (.string (S.extract (a + 1) b)) w := by
  have fl := Tryd.underlying9
  have h1 : (a : Int) + 1 ≤ (b : Int) := by omega
  have h2 : (b : Int) ≤ (S.size : Int) := by omega
  have h3 : (0 : Int) ≤ (a : Int) + 1 := by omega
  have h4 : ((a : Int) + 1).toNat = a + 1 := by omega
  simp [go_sem, Instr.slice, Instr.sliceBounds, Result.andThen, h1, h2, h3, h4]
theorem slice_to_str (S : ByteArray) (b : Nat) (hb : b ≤ S.size) (w : World) :
    (Instr.slice 9 (.string S) none (some (.int .i64 (b : Int))) none).run Tryd.prog w = .ok (.string (str (S.data.toList.take b))) w := by
  have fl := Tryd.underlying9
  have h2 : (b : Int) ≤ (S.size : Int) := by omega
  have e : S.extract 0 b = str (S.data.toList.take b) := by rw [ext_str, List.drop_zero, Nat.sub_zero]
  rw [← e]
  simp [go_sem, Instr.slice, Instr.sliceBounds, Result.andThen, h2]
theorem slice_from_str (S : ByteArray) (a : Nat) (ha : a + 1 ≤ S.size) (w : World) :
    (Instr.slice 9 (.string S) (some (.int .i64 ((a : Int) + 1))) none none).run Tryd.prog w = .ok (.string (str (S.data.toList.drop (a + 1)))) w := by
  have fl := Tryd.underlying9
  have h2 : (a : Int) + 1 ≤ (S.size : Int) := by omega
  have h3 : (0 : Int) ≤ (a : Int) + 1 := by omega
  have h4 : ((a : Int) + 1).toNat = a + 1 := by omega
  rw [← ext_end]
  simp [go_sem, Instr.slice, Instr.sliceBounds, Result.andThen, h2, h3, h4]
/-- what a reader of records leaves: its records in a row of its own, or the error -/
def RecsPost (R T : Int) (l : List UInt8) (w : World) (e : Ending) (w' : World) : Prop :=
  ∃ p c, e = .returned (.tuple #[.slice p (recsD R T l).1.length c, .int .i64 (recsD R T l).2]) ∧ (recsD R T l).1.length ≤ c ∧ c ≤ maxLen ∧ RecsAt w' p (recsD R T l).1.length (recsD R T l).1 ∧ Below w.heap.size w w'
theorem recs_err (R T : Int) (l : List UInt8) (w w' : World) (er : Int) (h : recsD R T l = ([], er)) (hb : Below w.heap.size w w') : RecsPost R T l w (.returned (.tuple #[.slice none 0 0, .int .i64 er])) w' :=
  ⟨none, 0, by rw [h]; rfl, by rw [h]; exact Nat.le_refl _, by decide, by rw [h]; exact ⟨rfl, fun h => absurd h (by simp)⟩, hb⟩
set_option maxHeartbeats 16000000 in
theorem records_any (p0 : Option Addr) (n0 c0 : Nat) (bs : List UInt8) (w : World) (hn : bs.length = n0) (hc : n0 ≤ c0) (hm : n0 ≤ 1000000000000) (h : BAt w p0 n0 bs) :
    Calls Tryd.prog 11 #[.slice p0 n0 c0] w (RecsPost 5 9 bs w) := by
  have cv := conv_at h hn _ _ _ Tryd.underlying22 Tryd.underlying5 Tryd.underlying9 c0
  have HN := Lib.hid hn
  obtain ⟨i0, hi, hz0, hz1, hz2⟩ := info_parts infoRec
  have HI := Lib.hid hi
  have HZ0 := Lib.hid hz0
  have HZ1 := Lib.hid hz1
  have HZ2 := Lib.hid hz2
  have mixed : Tryd.prog.follows .mixedOrders = true := by kernel_rfl
  clear h hn hi hz0 hz1 hz2
  go_enter Tryd.func11, Tryd.ntmps11
  go_wp2_with fail
  rw [show (⟨bs.toArray⟩ : ByteArray) = str bs from rfl]
  clear cv
  go_loopw [4, 5] (fun o s wr => ∃ (l : List UInt8) (acc : List (List UInt8 × List UInt8)), s = .string (str l) ∧ Hid (wr.ownsRow w.heap.size 31 2 o acc.length (flatR acc)) ∧ Hid (recsFrom 5 9 l acc = recsD 5 9 bs) ∧ Hid (acc.length + l.length ≤ n0) ∧ Hid (Below w.heap.size w wr)) (fun _ s _ => match s with | .string b => b.size | _ => 0)
  case atStart => exact ⟨bs, [], rfl, Lib.hid (World.ownsRow_nil _ _ _ _), Lib.hid rfl, Lib.hid (by rw [HN.out]; simp), Lib.hid (Below.refl _ _)⟩
  case round =>
    obtain ⟨l, acc, rfl, hown, hr, hlen, hB⟩ := hrel
    obtain ⟨S, hS⟩ : ∃ S, S = str l := ⟨_, rfl⟩
    rw [← hS]
    have HSL : Hid (S.data.toList = l) := Lib.hid (by rw [hS, str_data])
    have HSZ : Hid (S.size = l.length) := Lib.hid (by rw [hS, str_size])
    have HSS := Lib.hid hS
    clear hS
    by_cases hl0 : S.size = 0
    · have hl : l = [] := List.length_eq_zero_iff.1 (by rw [← HSZ.out]; exact hl0)
      have hG : Hid (recsD 5 9 bs = (acc, 0)) := Lib.hid (by rw [← hr.out, hl, recsFrom_nil])
      have hz : ¬ ((0 : Int) < (S.size : Int)) := by omega
      obtain ⟨p, c, rfl, h1, h2, h3⟩ := recs_own hown.out
      have H3 := Lib.hid (And.intro h1 (And.intro h2 h3))
      clear hl hl0 h1 h2 h3
      go_wp2
      go_ret2
      refine ⟨p, c, by rw [hG.out]; rfl, ?_, H3.out.2.1, ?_, hB.out⟩
      · rw [hG.out]; exact H3.out.1
      · rw [hG.out]; exact H3.out.2.2
    · have hpos : (0 : Int) < (S.size : Int) := by omega
      have HNE : Hid (l ≠ []) := Lib.hid (fun e => by have := HSZ.out; rw [e] at this; exact hl0 this)
      have hsm : (S.size : Int) ≤ 1000000000000 := by have := HSZ.out; have := hlen.out; omega
      have HG : Hid (∀ er, recStep 5 9 l = .error er → recsD 5 9 bs = ([], er)) := Lib.hid (fun er he => by rw [← hr.out, recsFrom_step 5 9 l HNE.out, he])
      go_wp2_with fail
      go_loop [6] (fun i => ∃ (k : Nat), k ≤ S.size ∧ i = .int .i64 (k : Int) ∧ Hid (∀ j, j < k → isDig (l.getD j 0) = true)) (fun i => S.size - (RowKit.intOf i).toNat)
      case atStart => exact ⟨0, Nat.zero_le _, rfl, Lib.hid (fun j hj => absurd hj (by omega))⟩
      case round =>
        obtain ⟨k, hk, rfl, hd⟩ := hrel
        by_cases hlt : k < S.size
        · have hx : Hid (S[k] = l.getD k 0) := Lib.hid (by rw [← HSL.out, idx_list S k hlt])
          obtain ⟨C, hC⟩ : ∃ C : Nat, (S[k]).toNat = C := ⟨_, rfl⟩
          have hC2 : ((S[k]).toNat : Int) = (C : Int) := by rw [hC]
          have hC3 : (C : Int) ≤ 255 := by have := (S[k]).toNat_lt; omega
          have HC : Hid ((l.getD k 0).toNat = C) := Lib.hid (by rw [← hx.out]; exact hC)
          clear hC
          have hltz : (k : Int) < (S.size : Int) := by omega
          by_cases g1 : (48 : Int) ≤ (C : Int)
          · by_cases g2 : (C : Int) ≤ 57
            · have HD : Hid (∀ j, j < k + 1 → isDig (l.getD j 0) = true) := Lib.hid (fun j hj => by
                rcases Nat.lt_succ_iff_lt_or_eq.1 hj with h | rfl
                · exact hd.out j h
                · simp only [isDig, decide_eq_true_eq, HC.out]; omega)
              go_wp2
              go_round
              case rel => exact ⟨k + 1, by omega, by go_num, HD⟩
              case measure => simp [RowKit.intOf]; omega
            · have HK : Hid (digN l = k) := Lib.hid (digN_is l k (by rw [← HSZ.out]; exact hk) hd.out (.inr (by simp only [isDig, HC.out, decide_eq_false_iff_not]; omega)))
              by_cases t1 : (k : Int) < 1
              · have HE := Lib.hid t1
                have E : Hid (recsD 5 9 bs = ([], 5)) := Lib.hid (HG.out 5 (by unfold recStep; rw [HK.out, if_pos (.inl (by omega))]))
                go_wp2
                go_ret2
                exact recs_err 5 9 bs w _ 5 E.out hB.out
              · by_cases t2 : (7 : Int) < (k : Int)
                · have HE := Lib.hid t2
                  have E : Hid (recsD 5 9 bs = ([], 5)) := Lib.hid (HG.out 5 (by unfold recStep; rw [HK.out, if_pos (.inr (.inl (by omega)))]))
                  go_wp2
                  go_ret2
                  exact recs_err 5 9 bs w _ 5 E.out hB.out
                · by_cases t3 : S[0] = 48
                  · have t3b : (((S[0]).toNat : Int) == 48) = true := by rw [t3]; rfl
                    have HE : Hid (l.getD 0 0 = 48) := Lib.hid (by rw [← HSL.out, idx_list S 0 (by omega)]; exact t3)
                    clear t3
                    have E : Hid (recsD 5 9 bs = ([], 5)) := Lib.hid (HG.out 5 (by unfold recStep; rw [HK.out, if_pos (.inr (.inr (.inl HE.out)))]))
                    go_wp2
                    go_ret2
                    exact recs_err 5 9 bs w _ 5 E.out hB.out
                  · have t3b : (((S[0]).toNat : Int) == 48) = false := by
                      have : ¬ (S[0]).toNat = 48 := fun e => t3 (UInt8.toNat_inj.1 e)
                      rw [beq_eq_false_iff_ne]; omega
                    have HE0 : Hid (l.getD 0 0 ≠ 48) := Lib.hid (by rw [← HSL.out, idx_list S 0 (by omega)]; exact t3)
                    have t4 : ((k : Int) == (S.size : Int)) = false := by rw [beq_eq_false_iff_ne]; omega
                    clear t3
                    by_cases t5 : (C : Int) = 32
                    · have t5b : ((C : Int) != 32) = false := by simp; omega
                      have HE5 : Hid (l.getD k 0 = 32) := Lib.hid (UInt8.toNat_inj.1 (by rw [HC.out]; show C = 32; omega))
                      clear t5
                      have HOK : Hid (¬ (digN l < 1 ∨ 7 < digN l ∨ l.getD 0 0 = 48 ∨ digN l = l.length ∨ l.getD (digN l) 0 ≠ 32)) := Lib.hid (by
                        rw [HK.out]
                        rintro (e | e | e | e | e)
                        · omega
                        · omega
                        · exact HE0.out e
                        · have := HSZ.out; omega
                        · exact e HE5.out)
                      obtain ⟨N, hN⟩ : ∃ N, N = valL (l.take k) := ⟨_, rfl⟩
                      have hdt := digN_take l
                      have HWV : Hid (wholeV (wholeD (S.extract 0 k).data.toList) = .tuple #[.int .i64 (N : Int), .bool true]) := Lib.hid (by
                        rw [ext_data, HSL.out, List.drop_zero, Nat.sub_zero]
                        have h1 : (l.take k).length = k := by rw [List.length_take]; have := HSZ.out; omega
                        unfold wholeD
                        rw [if_neg (by rw [h1]; omega), if_pos (List.all_eq_true.2 (by rw [← HK.out]; exact hdt.2)), ← hN]
                        rfl)
                      obtain ⟨q1, q2⟩ := recStep_go (R := 5) (T := 9) HOK.out
                      rw [HK.out, ← hN] at q1 q2
                      have HQ1 := Lib.hid q1
                      have HQ2 := Lib.hid q2
                      have HNN := Lib.hid hN
                      clear hN hdt q1 q2
                      have hkz : (k : Int) ≤ (S.size : Int) := by omega
                      go_wp2_with fail
                      refine (whole_any (S.extract 0 k) wr).mono ?_
                      rintro e w' ⟨rfl, rfl⟩
                      rw [HWV.out]
                      by_cases u1 : (S.size : Int) < (N : Int)
                      · have HE := Lib.hid u1
                        have E : Hid (recsD 5 9 bs = ([], 5)) := Lib.hid (HG.out 5 (by exact HQ1.out (.inl (by have := HSZ.out; omega))))
                        go_wp2
                        go_ret2
                        exact recs_err 5 9 bs w _ 5 E.out hB.out
                      · by_cases u2 : (N : Int) < (k : Int) + 4
                        · have HE := Lib.hid u2
                          have E : Hid (recsD 5 9 bs = ([], 5)) := Lib.hid (HG.out 5 (by exact HQ1.out (.inr (.inl (by omega)))))
                          go_wp2
                          go_ret2
                          exact recs_err 5 9 bs w _ 5 E.out hB.out
                        · obtain ⟨M, hM⟩ : ∃ M, N = M + 1 := ⟨N - 1, by omega⟩
                          subst hM
                          have hMS : M < S.size := by omega
                          have hkM : k + 1 ≤ M := by omega
                          have hkMz : (k : Int) + 1 ≤ (M : Int) := by omega
                          have hMSz : (M : Int) ≤ (S.size : Int) := by omega
                          have hMa : ((M + 1 : Nat) : Int) - 1 = (M : Int) := by omega
                          have HX10 : Hid (l.getD M 0 = S[M]) := Lib.hid (by rw [← HSL.out, idx_list S M hMS])
                          by_cases u3 : S[M] = 10
                          · have u3b : (((S[M]).toNat : Int) != 10) = false := by rw [u3]; rfl
                            have HU3 : Hid (¬ (l.length < M + 1 ∨ M + 1 < k + 4 ∨ l.getD (M + 1 - 1) 0 ≠ 10)) := Lib.hid (by
                              rintro (e | e | e)
                              · have := HSZ.out; omega
                              · omega
                              · exact e (by rw [Nat.add_sub_cancel, HX10.out, u3]))
                            clear u3
                            have sl := slice_str S k M hkM (Nat.le_of_lt hMS)
                            obtain ⟨X, hX⟩ : ∃ X, S.extract (k + 1) M = X := ⟨_, rfl⟩
                            rw [hX] at sl
                            have HXL : Hid (X.data.toList = (l.drop (k + 1)).take (M + 1 - 1 - (k + 1))) := Lib.hid (by rw [← hX, ext_data, HSL.out, Nat.add_sub_cancel])
                            have HQ := Lib.hid (HQ2.out HU3.out X.data.toList HXL.out)
                            have hXs : (X.size : Int) ≤ 1000000000000 := by
                              have h1 := size_of X
                              rw [HXL.out, List.length_take, List.length_drop] at h1
                              omega
                            go_wp2_with fail
                            go_loop [10, 11] (fun a b => ∃ (i : Nat), i ≤ X.size ∧ a = .int .i64 (-1) ∧ b = .int .i64 (i : Int) ∧ Hid (∀ j, j < i → X.data.toList.getD j 0 ≠ 61)) (fun _ b => X.size - (RowKit.intOf b).toNat)
                            case atStart => exact ⟨0, Nat.zero_le _, rfl, rfl, Lib.hid (fun j hj => absurd hj (by omega))⟩
                            case round =>
                              obtain ⟨i, hi, rfl, rfl, hno⟩ := hrel
                              by_cases hil : i < X.size
                              · have hx1 : Hid (X[i] = X.data.toList.getD i 0) := Lib.hid (idx_list X i hil).symm
                                by_cases g61 : X[i] = 61
                                · have b61 : (((X[i]).toNat : Int) == 61) = true := by rw [g61]; rfl
                                  have HIX : Hid (indexByte X.data.toList 61 = i) := Lib.hid (index_is _ 61 i (by rw [← size_of]; exact hil) hno.out (by rw [← hx1.out]; exact g61))
                                  clear g61
                                  by_cases i1 : (i : Int) < 1
                                  · have HE := Lib.hid i1
                                    have E : Hid (recsD 5 9 bs = ([], 5)) := Lib.hid (HG.out 5 (by exact HQ.out.1 (by rw [HIX.out]; exact HE.out)))
                                    go_wp2
                                    go_ret2
                                    exact recs_err 5 9 bs w _ 5 E.out hB.out
                                  · have HI1 : Hid (1 ≤ indexByte X.data.toList 61) := Lib.hid (by rw [HIX.out]; omega)
                                    cases ht : textD X.data.toList with
                                    | false =>
                                      have HTX : Hid (recStep 5 9 l = .error 9) := Lib.hid (by first | exact HQ.out.2.1 HI1.out ht | exact HQ.out.2.1 (Int.not_lt.2 HI1.out) ht)
                                      go_wp2_with fail
                                      refine (rtext_any X wr (by omega)).mono ?_
                                      rw [ht]
                                      rintro e w' ⟨rfl, rfl⟩
                                      have E : Hid (recsD 5 9 bs = ([], 9)) := Lib.hid (HG.out 9 (by exact HTX.out))
                                      go_wp2
                                      go_ret2
                                      exact recs_err 5 9 bs w _ 9 E.out hB.out
                                    | true =>
                                      have hst : recStep 5 9 l = .ok (X.data.toList.take i, X.data.toList.drop (i + 1), M + 1) := by
                                        have h1 : recStep 5 9 l = .ok (X.data.toList.take (indexByte X.data.toList 61).toNat, X.data.toList.drop ((indexByte X.data.toList 61).toNat + 1), M + 1) := by first | exact HQ.out.2.2 HI1.out ht | exact HQ.out.2.2 (Int.not_lt.2 HI1.out) ht
                                        rw [HIX.out, Int.toNat_natCast] at h1
                                        exact h1
                                      have s2 := slice_from_str S M hMS
                                      rw [HSL.out] at s2
                                      obtain ⟨kk, hkk⟩ : ∃ kk, X.data.toList.take i = kk := ⟨_, rfl⟩
                                      obtain ⟨vv, hvv⟩ : ∃ vv, X.data.toList.drop (i + 1) = vv := ⟨_, rfl⟩
                                      rw [hkk] at hst
                                      rw [hvv] at hst
                                      have HEK : Hid (X.extract 0 i = str kk ∧ X.extract (i + 1) X.size = str vv) := Lib.hid ⟨by rw [ext_str, List.drop_zero, Nat.sub_zero, hkk], by rw [ext_end, hvv]⟩
                                      have HST : Hid (recsFrom 5 9 (l.drop (M + 1)) (acc ++ [(kk, vv)]) = recsD 5 9 bs) := Lib.hid (by rw [← hr.out, recsFrom_step 5 9 l HNE.out, hst])
                                      clear hkk hvv hst
                                      go_wp2_with fail
                                      refine (rtext_any X wr (by omega)).mono ?_
                                      rw [ht]
                                      rintro e w' ⟨rfl, rfl⟩
                                      have HOWN : Hid (World.ownsRow (wr.drew.alloc (.cells #[.string (X.extract 0 i), .string (X.extract (i + 1) X.size)] 31)) w.heap.size 31 2 u4 acc.length (flatR acc)) := Lib.hid (World.ownsRow.alloc (w := wr.drew) hown.out _)
                                      have HBD : Hid (Below w.heap.size w (wr.drew.alloc (.cells #[.string (X.extract 0 i), .string (X.extract (i + 1) X.size)] 31))) := Lib.hid ((below_drewN hB.out 1).alloc hB.out.size _)
                                      have HCL : Hid (∀ j u, ([Value.string (X.extract 0 i), .string (X.extract (i + 1) X.size)] : List Value)[j]? = some u → (wr.drew.alloc (.cells #[.string (X.extract 0 i), .string (X.extract (i + 1) X.size)] 31)).cell? ((⟨wr.heap.size, 0, none⟩ : Addr).add j) = some u) := Lib.hid (fun j u hj => by
                                        obtain ⟨g0, g1⟩ := cells2 wr.drew 31 (.string (X.extract 0 i)) (.string (X.extract (i + 1) X.size))
                                        match j, hj with
                                        | 0, hj => cases hj; exact g0
                                        | 1, hj => cases hj; exact g1
                                        | j + 2, hj => simp at hj)
                                      have HAL : Hid (acc.length + 1 ≤ 1000000000001) := Lib.hid (by have := hlen.out; omega)
                                      have HSZ1 : Hid (w.heap.size ≤ (wr.drew.alloc (.cells #[.string (X.extract 0 i), .string (X.extract (i + 1) X.size)] 31)).heap.size) := Lib.hid HBD.out.size
                                      have q1 : (0 : Int) ≤ (i : Int) := by omega
                                      have q2 : (i : Int) ≤ (X.size : Int) := by omega
                                      have q3 : (0 : Int) ≤ (i : Int) + 1 := by omega
                                      have q4 : (i : Int) + 1 ≤ (X.size : Int) := by omega
                                      have q5 : IntKind.i64.wrap ((i : Int) + 1) = (i : Int) + 1 := by rw [IntKind.wrap_i64]; omega
                                      go_wp2_with fail
                                      go_region_held_law (fun w' => w'.os = w'.os) (rfl) (first
                                        | (refine step_append_own (by kernel_rfl) _ _ 24 rfl w.heap.size 31 i0 (.agg #[.string ⟨#[]⟩, .string ⟨#[]⟩]) 2 32 Tryd.underlying24 HI.out HZ0.out HZ1.out HZ2.out rfl (by decide) u4 acc.length (flatR acc) rfl HOWN.out ⟨wr.heap.size, 0, none⟩ 1 1 [.string (X.extract 0 i), .string (X.extract (i + 1) X.size)] rfl rfl HCL.out ?_ ?_ ?_ HSZ1.out ?_
                                           (intro u hu; rcases List.mem_cons.1 hu with rfl | hu; rfl; rcases List.mem_cons.1 hu with rfl | hu; rfl; cases hu)
                                           (have := HAL.out; unfold maxLen; omega)
                                           (have := HAL.out; omega)
                                           intro v' w1 hown' hgrow _)
                                        | fail)
                                      have HOW1 : Hid (w1.ownsRow w.heap.size 31 2 v' (acc ++ [(kk, vv)]).length (flatR (acc ++ [(kk, vv)]))) := Lib.hid (by
                                        rw [flatR_snoc, List.length_append, ← HEK.out.1, ← HEK.out.2]; exact hown')
                                      have HBW : Hid (Below w.heap.size w w1) := Lib.hid (HBD.out.grown hgrow HBD.out.size (fun b hb => by
                                        rcases HOWN.out.2 with ⟨rfl, _⟩ | ⟨g, cap, cur, rfl, hb2, _⟩
                                        · cases hb
                                        · cases hb; exact hb2))
                                      clear hown' hgrow
                                      simp only [List.getElem_toArray, List.getElem_cons_succ, List.getElem_cons_zero]
                                      simp only [List.setIfInBounds_toArray, List.set_cons_succ, List.set_cons_zero]
                                      go_wp2_with fail
                                      go_roundw
                                      case rel => exact ⟨l.drop (M + 1), acc ++ [(kk, vv)], rfl, HOW1, HST, Lib.hid (by have h1 := HSZ.out; have h2 := hlen.out; rw [List.length_append, List.length_drop]; simp only [List.length_cons, List.length_nil]; omega), HBW⟩
                                      case measure => have h1 := HSZ.out; simp only [str_size, List.length_drop]; omega
                                · have b61 : (((X[i]).toNat : Int) == 61) = false := by
                                    have : ¬ (X[i]).toNat = 61 := fun e => g61 (UInt8.toNat_inj.1 e)
                                    rw [beq_eq_false_iff_ne]; omega
                                  have HNX : Hid (∀ j, j < i + 1 → X.data.toList.getD j 0 ≠ 61) := Lib.hid (fun j hj => by
                                    rcases Nat.lt_succ_iff_lt_or_eq.1 hj with h | rfl
                                    · exact hno.out j h
                                    · rw [← hx1.out]; exact g61)
                                  clear g61
                                  go_wp2
                                  go_round
                                  case rel => exact ⟨i + 1, by omega, rfl, by go_num, HNX⟩
                                  case measure => simp [RowKit.intOf]; omega
                              · have HE : Hid (indexByte X.data.toList 61 < 1) := Lib.hid (index_not _ 61 (fun j hj => hno.out j (by rw [← size_of] at hj; omega)))
                                have E : Hid (recsD 5 9 bs = ([], 5)) := Lib.hid (HG.out 5 (by exact HQ.out.1 HE.out))
                                go_wp2
                                go_ret2
                                exact recs_err 5 9 bs w _ 5 E.out hB.out
                          · have u3b : (((S[M]).toNat : Int) != 10) = true := by
                              have : ¬ (S[M]).toNat = 10 := fun e => u3 (UInt8.toNat_inj.1 e)
                              simp; omega
                            have HU3 : Hid (l.getD (M + 1 - 1) 0 ≠ 10) := Lib.hid (by rw [Nat.add_sub_cancel, HX10.out]; exact u3)
                            clear u3
                            have E : Hid (recsD 5 9 bs = ([], 5)) := Lib.hid (HG.out 5 (by exact HQ1.out (.inr (.inr HU3.out))))
                            go_wp2
                            go_ret2
                            exact recs_err 5 9 bs w _ 5 E.out hB.out
                    · have t5b : ((C : Int) != 32) = true := by simp; omega
                      have HE5 : Hid (l.getD k 0 ≠ 32) := Lib.hid (fun e => t5 (by have := congrArg UInt8.toNat e; rw [HC.out] at this; rw [this]; rfl))
                      clear t5
                      have E : Hid (recsD 5 9 bs = ([], 5)) := Lib.hid (HG.out 5 (by unfold recStep; rw [HK.out, if_pos (.inr (.inr (.inr (.inr HE5.out))))]))
                      go_wp2
                      go_ret2
                      exact recs_err 5 9 bs w _ 5 E.out hB.out
          · have HK : Hid (digN l = k) := Lib.hid (digN_is l k (by rw [← HSZ.out]; exact hk) hd.out (.inr (by simp only [isDig, HC.out, decide_eq_false_iff_not]; omega)))
            by_cases t1 : (k : Int) < 1
            · have HE := Lib.hid t1
              have E : Hid (recsD 5 9 bs = ([], 5)) := Lib.hid (HG.out 5 (by unfold recStep; rw [HK.out, if_pos (.inl (by omega))]))
              go_wp2
              go_ret2
              exact recs_err 5 9 bs w _ 5 E.out hB.out
            · by_cases t2 : (7 : Int) < (k : Int)
              · have HE := Lib.hid t2
                have E : Hid (recsD 5 9 bs = ([], 5)) := Lib.hid (HG.out 5 (by unfold recStep; rw [HK.out, if_pos (.inr (.inl (by omega)))]))
                go_wp2
                go_ret2
                exact recs_err 5 9 bs w _ 5 E.out hB.out
              · by_cases t3 : S[0] = 48
                · have t3b : (((S[0]).toNat : Int) == 48) = true := by rw [t3]; rfl
                  have HE : Hid (l.getD 0 0 = 48) := Lib.hid (by rw [← HSL.out, idx_list S 0 (by omega)]; exact t3)
                  clear t3
                  have E : Hid (recsD 5 9 bs = ([], 5)) := Lib.hid (HG.out 5 (by unfold recStep; rw [HK.out, if_pos (.inr (.inr (.inl HE.out)))]))
                  go_wp2
                  go_ret2
                  exact recs_err 5 9 bs w _ 5 E.out hB.out
                · have t3b : (((S[0]).toNat : Int) == 48) = false := by
                    have : ¬ (S[0]).toNat = 48 := fun e => t3 (UInt8.toNat_inj.1 e)
                    rw [beq_eq_false_iff_ne]; omega
                  have HE0 : Hid (l.getD 0 0 ≠ 48) := Lib.hid (by rw [← HSL.out, idx_list S 0 (by omega)]; exact t3)
                  have t4 : ((k : Int) == (S.size : Int)) = false := by rw [beq_eq_false_iff_ne]; omega
                  clear t3
                  by_cases t5 : (C : Int) = 32
                  · have t5b : ((C : Int) != 32) = false := by simp; omega
                    have HE5 : Hid (l.getD k 0 = 32) := Lib.hid (UInt8.toNat_inj.1 (by rw [HC.out]; show C = 32; omega))
                    clear t5
                    have HOK : Hid (¬ (digN l < 1 ∨ 7 < digN l ∨ l.getD 0 0 = 48 ∨ digN l = l.length ∨ l.getD (digN l) 0 ≠ 32)) := Lib.hid (by
                      rw [HK.out]
                      rintro (e | e | e | e | e)
                      · omega
                      · omega
                      · exact HE0.out e
                      · have := HSZ.out; omega
                      · exact e HE5.out)
                    obtain ⟨N, hN⟩ : ∃ N, N = valL (l.take k) := ⟨_, rfl⟩
                    have hdt := digN_take l
                    have HWV : Hid (wholeV (wholeD (S.extract 0 k).data.toList) = .tuple #[.int .i64 (N : Int), .bool true]) := Lib.hid (by
                      rw [ext_data, HSL.out, List.drop_zero, Nat.sub_zero]
                      have h1 : (l.take k).length = k := by rw [List.length_take]; have := HSZ.out; omega
                      unfold wholeD
                      rw [if_neg (by rw [h1]; omega), if_pos (List.all_eq_true.2 (by rw [← HK.out]; exact hdt.2)), ← hN]
                      rfl)
                    obtain ⟨q1, q2⟩ := recStep_go (R := 5) (T := 9) HOK.out
                    rw [HK.out, ← hN] at q1 q2
                    have HQ1 := Lib.hid q1
                    have HQ2 := Lib.hid q2
                    have HNN := Lib.hid hN
                    clear hN hdt q1 q2
                    have hkz : (k : Int) ≤ (S.size : Int) := by omega
                    go_wp2_with fail
                    refine (whole_any (S.extract 0 k) wr).mono ?_
                    rintro e w' ⟨rfl, rfl⟩
                    rw [HWV.out]
                    by_cases u1 : (S.size : Int) < (N : Int)
                    · have HE := Lib.hid u1
                      have E : Hid (recsD 5 9 bs = ([], 5)) := Lib.hid (HG.out 5 (by exact HQ1.out (.inl (by have := HSZ.out; omega))))
                      go_wp2
                      go_ret2
                      exact recs_err 5 9 bs w _ 5 E.out hB.out
                    · by_cases u2 : (N : Int) < (k : Int) + 4
                      · have HE := Lib.hid u2
                        have E : Hid (recsD 5 9 bs = ([], 5)) := Lib.hid (HG.out 5 (by exact HQ1.out (.inr (.inl (by omega)))))
                        go_wp2
                        go_ret2
                        exact recs_err 5 9 bs w _ 5 E.out hB.out
                      · obtain ⟨M, hM⟩ : ∃ M, N = M + 1 := ⟨N - 1, by omega⟩
                        subst hM
                        have hMS : M < S.size := by omega
                        have hkM : k + 1 ≤ M := by omega
                        have hkMz : (k : Int) + 1 ≤ (M : Int) := by omega
                        have hMSz : (M : Int) ≤ (S.size : Int) := by omega
                        have hMa : ((M + 1 : Nat) : Int) - 1 = (M : Int) := by omega
                        have HX10 : Hid (l.getD M 0 = S[M]) := Lib.hid (by rw [← HSL.out, idx_list S M hMS])
                        by_cases u3 : S[M] = 10
                        · have u3b : (((S[M]).toNat : Int) != 10) = false := by rw [u3]; rfl
                          have HU3 : Hid (¬ (l.length < M + 1 ∨ M + 1 < k + 4 ∨ l.getD (M + 1 - 1) 0 ≠ 10)) := Lib.hid (by
                            rintro (e | e | e)
                            · have := HSZ.out; omega
                            · omega
                            · exact e (by rw [Nat.add_sub_cancel, HX10.out, u3]))
                          clear u3
                          have sl := slice_str S k M hkM (Nat.le_of_lt hMS)
                          obtain ⟨X, hX⟩ : ∃ X, S.extract (k + 1) M = X := ⟨_, rfl⟩
                          rw [hX] at sl
                          have HXL : Hid (X.data.toList = (l.drop (k + 1)).take (M + 1 - 1 - (k + 1))) := Lib.hid (by rw [← hX, ext_data, HSL.out, Nat.add_sub_cancel])
                          have HQ := Lib.hid (HQ2.out HU3.out X.data.toList HXL.out)
                          have hXs : (X.size : Int) ≤ 1000000000000 := by
                            have h1 := size_of X
                            rw [HXL.out, List.length_take, List.length_drop] at h1
                            omega
                          go_wp2_with fail
                          go_loop [10, 11] (fun a b => ∃ (i : Nat), i ≤ X.size ∧ a = .int .i64 (-1) ∧ b = .int .i64 (i : Int) ∧ Hid (∀ j, j < i → X.data.toList.getD j 0 ≠ 61)) (fun _ b => X.size - (RowKit.intOf b).toNat)
                          case atStart => exact ⟨0, Nat.zero_le _, rfl, rfl, Lib.hid (fun j hj => absurd hj (by omega))⟩
                          case round =>
                            obtain ⟨i, hi, rfl, rfl, hno⟩ := hrel
                            by_cases hil : i < X.size
                            · have hx1 : Hid (X[i] = X.data.toList.getD i 0) := Lib.hid (idx_list X i hil).symm
                              by_cases g61 : X[i] = 61
                              · have b61 : (((X[i]).toNat : Int) == 61) = true := by rw [g61]; rfl
                                have HIX : Hid (indexByte X.data.toList 61 = i) := Lib.hid (index_is _ 61 i (by rw [← size_of]; exact hil) hno.out (by rw [← hx1.out]; exact g61))
                                clear g61
                                by_cases i1 : (i : Int) < 1
                                · have HE := Lib.hid i1
                                  have E : Hid (recsD 5 9 bs = ([], 5)) := Lib.hid (HG.out 5 (by exact HQ.out.1 (by rw [HIX.out]; exact HE.out)))
                                  go_wp2
                                  go_ret2
                                  exact recs_err 5 9 bs w _ 5 E.out hB.out
                                · have HI1 : Hid (1 ≤ indexByte X.data.toList 61) := Lib.hid (by rw [HIX.out]; omega)
                                  cases ht : textD X.data.toList with
                                  | false =>
                                    have HTX : Hid (recStep 5 9 l = .error 9) := Lib.hid (by first | exact HQ.out.2.1 HI1.out ht | exact HQ.out.2.1 (Int.not_lt.2 HI1.out) ht)
                                    go_wp2_with fail
                                    refine (rtext_any X wr (by omega)).mono ?_
                                    rw [ht]
                                    rintro e w' ⟨rfl, rfl⟩
                                    have E : Hid (recsD 5 9 bs = ([], 9)) := Lib.hid (HG.out 9 (by exact HTX.out))
                                    go_wp2
                                    go_ret2
                                    exact recs_err 5 9 bs w _ 9 E.out hB.out
                                  | true =>
                                    have hst : recStep 5 9 l = .ok (X.data.toList.take i, X.data.toList.drop (i + 1), M + 1) := by
                                      have h1 : recStep 5 9 l = .ok (X.data.toList.take (indexByte X.data.toList 61).toNat, X.data.toList.drop ((indexByte X.data.toList 61).toNat + 1), M + 1) := by first | exact HQ.out.2.2 HI1.out ht | exact HQ.out.2.2 (Int.not_lt.2 HI1.out) ht
                                      rw [HIX.out, Int.toNat_natCast] at h1
                                      exact h1
                                    have s2 := slice_from_str S M hMS
                                    rw [HSL.out] at s2
                                    obtain ⟨kk, hkk⟩ : ∃ kk, X.data.toList.take i = kk := ⟨_, rfl⟩
                                    obtain ⟨vv, hvv⟩ : ∃ vv, X.data.toList.drop (i + 1) = vv := ⟨_, rfl⟩
                                    rw [hkk] at hst
                                    rw [hvv] at hst
                                    have HEK : Hid (X.extract 0 i = str kk ∧ X.extract (i + 1) X.size = str vv) := Lib.hid ⟨by rw [ext_str, List.drop_zero, Nat.sub_zero, hkk], by rw [ext_end, hvv]⟩
                                    have HST : Hid (recsFrom 5 9 (l.drop (M + 1)) (acc ++ [(kk, vv)]) = recsD 5 9 bs) := Lib.hid (by rw [← hr.out, recsFrom_step 5 9 l HNE.out, hst])
                                    clear hkk hvv hst
                                    go_wp2_with fail
                                    refine (rtext_any X wr (by omega)).mono ?_
                                    rw [ht]
                                    rintro e w' ⟨rfl, rfl⟩
                                    have HOWN : Hid (World.ownsRow (wr.drew.alloc (.cells #[.string (X.extract 0 i), .string (X.extract (i + 1) X.size)] 31)) w.heap.size 31 2 u4 acc.length (flatR acc)) := Lib.hid (World.ownsRow.alloc (w := wr.drew) hown.out _)
                                    have HBD : Hid (Below w.heap.size w (wr.drew.alloc (.cells #[.string (X.extract 0 i), .string (X.extract (i + 1) X.size)] 31))) := Lib.hid ((below_drewN hB.out 1).alloc hB.out.size _)
                                    have HCL : Hid (∀ j u, ([Value.string (X.extract 0 i), .string (X.extract (i + 1) X.size)] : List Value)[j]? = some u → (wr.drew.alloc (.cells #[.string (X.extract 0 i), .string (X.extract (i + 1) X.size)] 31)).cell? ((⟨wr.heap.size, 0, none⟩ : Addr).add j) = some u) := Lib.hid (fun j u hj => by
                                      obtain ⟨g0, g1⟩ := cells2 wr.drew 31 (.string (X.extract 0 i)) (.string (X.extract (i + 1) X.size))
                                      match j, hj with
                                      | 0, hj => cases hj; exact g0
                                      | 1, hj => cases hj; exact g1
                                      | j + 2, hj => simp at hj)
                                    have HAL : Hid (acc.length + 1 ≤ 1000000000001) := Lib.hid (by have := hlen.out; omega)
                                    have HSZ1 : Hid (w.heap.size ≤ (wr.drew.alloc (.cells #[.string (X.extract 0 i), .string (X.extract (i + 1) X.size)] 31)).heap.size) := Lib.hid HBD.out.size
                                    have q1 : (0 : Int) ≤ (i : Int) := by omega
                                    have q2 : (i : Int) ≤ (X.size : Int) := by omega
                                    have q3 : (0 : Int) ≤ (i : Int) + 1 := by omega
                                    have q4 : (i : Int) + 1 ≤ (X.size : Int) := by omega
                                    have q5 : IntKind.i64.wrap ((i : Int) + 1) = (i : Int) + 1 := by rw [IntKind.wrap_i64]; omega
                                    go_wp2_with fail
                                    go_region_held_law (fun w' => w'.os = w'.os) (rfl) (first
                                      | (refine step_append_own (by kernel_rfl) _ _ 24 rfl w.heap.size 31 i0 (.agg #[.string ⟨#[]⟩, .string ⟨#[]⟩]) 2 32 Tryd.underlying24 HI.out HZ0.out HZ1.out HZ2.out rfl (by decide) u4 acc.length (flatR acc) rfl HOWN.out ⟨wr.heap.size, 0, none⟩ 1 1 [.string (X.extract 0 i), .string (X.extract (i + 1) X.size)] rfl rfl HCL.out ?_ ?_ ?_ HSZ1.out ?_
                                         (intro u hu; rcases List.mem_cons.1 hu with rfl | hu; rfl; rcases List.mem_cons.1 hu with rfl | hu; rfl; cases hu)
                                         (have := HAL.out; unfold maxLen; omega)
                                         (have := HAL.out; omega)
                                         intro v' w1 hown' hgrow _)
                                      | fail)
                                    have HOW1 : Hid (w1.ownsRow w.heap.size 31 2 v' (acc ++ [(kk, vv)]).length (flatR (acc ++ [(kk, vv)]))) := Lib.hid (by
                                      rw [flatR_snoc, List.length_append, ← HEK.out.1, ← HEK.out.2]; exact hown')
                                    have HBW : Hid (Below w.heap.size w w1) := Lib.hid (HBD.out.grown hgrow HBD.out.size (fun b hb => by
                                      rcases HOWN.out.2 with ⟨rfl, _⟩ | ⟨g, cap, cur, rfl, hb2, _⟩
                                      · cases hb
                                      · cases hb; exact hb2))
                                    clear hown' hgrow
                                    simp only [List.getElem_toArray, List.getElem_cons_succ, List.getElem_cons_zero]
                                    simp only [List.setIfInBounds_toArray, List.set_cons_succ, List.set_cons_zero]
                                    go_wp2_with fail
                                    go_roundw
                                    case rel => exact ⟨l.drop (M + 1), acc ++ [(kk, vv)], rfl, HOW1, HST, Lib.hid (by have h1 := HSZ.out; have h2 := hlen.out; rw [List.length_append, List.length_drop]; simp only [List.length_cons, List.length_nil]; omega), HBW⟩
                                    case measure => have h1 := HSZ.out; simp only [str_size, List.length_drop]; omega
                              · have b61 : (((X[i]).toNat : Int) == 61) = false := by
                                  have : ¬ (X[i]).toNat = 61 := fun e => g61 (UInt8.toNat_inj.1 e)
                                  rw [beq_eq_false_iff_ne]; omega
                                have HNX : Hid (∀ j, j < i + 1 → X.data.toList.getD j 0 ≠ 61) := Lib.hid (fun j hj => by
                                  rcases Nat.lt_succ_iff_lt_or_eq.1 hj with h | rfl
                                  · exact hno.out j h
                                  · rw [← hx1.out]; exact g61)
                                clear g61
                                go_wp2
                                go_round
                                case rel => exact ⟨i + 1, by omega, rfl, by go_num, HNX⟩
                                case measure => simp [RowKit.intOf]; omega
                            · have HE : Hid (indexByte X.data.toList 61 < 1) := Lib.hid (index_not _ 61 (fun j hj => hno.out j (by rw [← size_of] at hj; omega)))
                              have E : Hid (recsD 5 9 bs = ([], 5)) := Lib.hid (HG.out 5 (by exact HQ.out.1 HE.out))
                              go_wp2
                              go_ret2
                              exact recs_err 5 9 bs w _ 5 E.out hB.out
                        · have u3b : (((S[M]).toNat : Int) != 10) = true := by
                            have : ¬ (S[M]).toNat = 10 := fun e => u3 (UInt8.toNat_inj.1 e)
                            simp; omega
                          have HU3 : Hid (l.getD (M + 1 - 1) 0 ≠ 10) := Lib.hid (by rw [Nat.add_sub_cancel, HX10.out]; exact u3)
                          clear u3
                          have E : Hid (recsD 5 9 bs = ([], 5)) := Lib.hid (HG.out 5 (by exact HQ1.out (.inr (.inr HU3.out))))
                          go_wp2
                          go_ret2
                          exact recs_err 5 9 bs w _ 5 E.out hB.out
                  · have t5b : ((C : Int) != 32) = true := by simp; omega
                    have HE5 : Hid (l.getD k 0 ≠ 32) := Lib.hid (fun e => t5 (by have := congrArg UInt8.toNat e; rw [HC.out] at this; rw [this]; rfl))
                    clear t5
                    have E : Hid (recsD 5 9 bs = ([], 5)) := Lib.hid (HG.out 5 (by unfold recStep; rw [HK.out, if_pos (.inr (.inr (.inr (.inr HE5.out))))]))
                    go_wp2
                    go_ret2
                    exact recs_err 5 9 bs w _ 5 E.out hB.out
        · have HK : Hid (digN l = k) := Lib.hid (digN_is l k (by rw [← HSZ.out]; exact hk) hd.out (.inl (by rw [← HSZ.out]; omega)))
          have hks : ¬ ((k : Int) < (S.size : Int)) := by omega
          by_cases t1 : (k : Int) < 1
          · have HE := Lib.hid t1
            have E : Hid (recsD 5 9 bs = ([], 5)) := Lib.hid (HG.out 5 (by unfold recStep; rw [HK.out, if_pos (.inl (by omega))]))
            go_wp2
            go_ret2
            exact recs_err 5 9 bs w _ 5 E.out hB.out
          · by_cases t2 : (7 : Int) < (k : Int)
            · have HE := Lib.hid t2
              have E : Hid (recsD 5 9 bs = ([], 5)) := Lib.hid (HG.out 5 (by unfold recStep; rw [HK.out, if_pos (.inr (.inl (by omega)))]))
              go_wp2
              go_ret2
              exact recs_err 5 9 bs w _ 5 E.out hB.out
            · have hkk : Hid (digN l = l.length) := Lib.hid (by rw [HK.out, ← HSZ.out]; omega)
              by_cases t3 : S[0] = 48
              · have t3b : (((S[0]).toNat : Int) == 48) = true := by rw [t3]; rfl
                clear t3
                have E : Hid (recsD 5 9 bs = ([], 5)) := Lib.hid (HG.out 5 (by unfold recStep; rw [if_pos (.inr (.inr (.inr (.inl hkk.out))))]))
                go_wp2
                go_ret2
                exact recs_err 5 9 bs w _ 5 E.out hB.out
              · have t3b : (((S[0]).toNat : Int) == 48) = false := by
                  have : ¬ (S[0]).toNat = 48 := fun e => t3 (UInt8.toNat_inj.1 e)
                  rw [beq_eq_false_iff_ne]; omega
                have t4 : ((k : Int) == (S.size : Int)) = true := by simp; omega
                clear t3
                have E : Hid (recsD 5 9 bs = ([], 5)) := Lib.hid (HG.out 5 (by unfold recStep; rw [if_pos (.inr (.inr (.inr (.inl hkk.out))))]))
                go_wp2
                go_ret2
                exact recs_err 5 9 bs w _ 5 E.out hB.out
end Go.Proofs.YtodlkjlcihcciaaDoor.Rec
