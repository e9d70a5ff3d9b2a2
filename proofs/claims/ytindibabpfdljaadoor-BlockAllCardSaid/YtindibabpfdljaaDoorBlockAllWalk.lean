/- The walk over BlockAll: it returns true for every bytes and chunks, and writes nothing that was there. -/
import Derived.Test.YtindibabpfdljaaDoorBlockLaws
import Derived.Test.YtindibabpfdljaaDoorBytStr
namespace Go.Proofs.YtindibabpfdljaaDoor.Walk
open Go.ChangeShapes Go.WideShapes Go.ChangeAt Go.RowKit Go.Proofs.YtindibabpfdljaaDoor.Base Go.Proofs.YtindibabpfdljaaDoor.Byt Go.Proofs.YtindibabpfdljaaDoor.Num Go.Proofs.YtindibabpfdljaaDoor.Block Go.Lib
set_option linter.unusedVariables false

theorem take_more {α : Type} (l : List α) (a b : Nat) : l.take a ++ (l.drop a).take b = l.take (a + b) := by rw [List.take_add]
theorem str_of {s : ByteArray} {l : List UInt8} (h : s.data.toList = l) : s = ⟨l.toArray⟩ := by
  apply ByteArray.ext
  rw [← h]
/-- the loop's relation -/
def AllInv (w : World) (g : Nat) (S : Sv) (a : Nat) (wr : World) : Prop := (∃ t, Src wr g S a t) ∧ Byt.Kept noneB w wr
set_option maxHeartbeats 3200000 in
theorem blockAll (a0 : Option Addr) (len0 cap0 : Nat) (z0 : List Int) (a1 : Option Addr) (len1 cap1 : Nat) (z1 : List Int) (w : World) (w0 : IsRow .u8 w a0 len0 cap0 z0) (b0 : cap0 * 1 ≤ 140737488351232) (w1 : IsRow .i64 w a1 len1 cap1 z1) (b1 : cap1 * 8 ≤ 140737488351232) :
    Calls Tryd.prog 7 #[.slice a0 len0 cap0, .slice a1 len1 cap1] w fun e w' => e = .returned (.bool true) ∧ Below w.heap.size w w' := by
  obtain ⟨hb, hl, hc, _⟩ := bat_of_row w0
  obtain ⟨hi, hil, hic, _⟩ := iat_of_row w1
  obtain ⟨bs, hbs⟩ : ∃ bs, bs = bytesOf (z0.take len0) := ⟨_, rfl⟩
  obtain ⟨zs, hzs⟩ : ∃ zs, zs = z1.take len1 := ⟨_, rfl⟩
  rw [← hbs] at hb hl
  rw [← hzs] at hi hil
  obtain ⟨n, rfl⟩ : ∃ n, n = len0 := ⟨_, rfl⟩
  have HB := Lib.hid hb
  have HL := Lib.hid hl
  have HI := Lib.hid hi
  have HIL := Lib.hid hil
  have hm8 : Hid (len1 * 8 ≤ 140737488351232) := Lib.hid (by omega)
  clear hb hl hi hil hbs hzs w0 w1 hic b1
  by_cases hbig : 20000 < n
  · go_enter Tryd.func7, Tryd.ntmps7
    go_wp2_with fail
    refine (ans03_any _).mono ?_
    rintro e w2 ⟨rfl, hk⟩
    have HK := Lib.hid hk
    clear hk
    go_wp2
    go_ret
    exact ⟨rfl, HK.out.below (Nat.le_refl _) (fun _ h => h.elim)⟩
  · have hn : n ≤ 20000 := by omega
    go_enter Tryd.func7, Tryd.ntmps7
    go_wp2_with fail
    refine (new_any w a0 n cap0 bs a1 len1 cap1 zs HB.out HL.out (by omega) HI.out HIL.out hm8.out).mono ?_
    rintro e w2 ⟨g, S, rfl, hg, hSb, hSn, hSz, hoff, hnp, hnq, hs2, hk2⟩
    have hSn' : S.n = n := by rw [hSn, HL.out]
    have HG := Lib.hid hg
    have HSB := Lib.hid hSb
    have HSN := Lib.hid hSn'
    have HOFF := Lib.hid hoff
    have HS2 := Lib.hid hs2
    have HK2 := Lib.hid hk2
    clear hg hSb hSn hSz hoff hnp hnq hs2 hk2 hSn'
    have gnew : ∀ i, oneB g i → w.heap.size ≤ i ∨ noneB i := fun i hi => Or.inl (by have := HG.out; have h : i = g := hi; omega)
    have GNEW := Lib.hid gnew
    clear gnew
    go_wp2_with fail
    go_loopw [6, 7] (fun s i wr => ∃ (k : Nat) (st : ByteArray), 512 * k ≤ n ∧ st.size = 512 * k ∧ i = .int .i64 k ∧ s = .string st ∧ Hid (st.data.toList = bs.take (512 * k)) ∧ Hid (AllInv w g S (512 * k) wr)) (fun _ i _ => n / 512 - (RowKit.intOf i).toNat)
    case atStart => exact ⟨0, ⟨#[]⟩, by omega, rfl, rfl, rfl, Lib.hid rfl, Lib.hid ⟨⟨0, HS2.out⟩, HK2.out⟩⟩
    case round =>
      obtain ⟨k, st, hk, hsz, rfl, rfl, hst, hinv⟩ := hrel
      obtain ⟨⟨t, hs3⟩, hk3⟩ := hinv.out
      have HS3 := Lib.hid hs3
      have HK3 := Lib.hid hk3
      clear hs3 hk3
      by_cases hlt : k < n / 512
      · have hlt' : (k : Int) < (n : Int) / 512 := by omega
        go_wp2_with fail
        refine (block_any _ g _ t S HS3.out HOFF.out).mono ?_
        intro e w4 h4
        rcases h4 with ⟨h4, _⟩ | ⟨_, ⟨_, v, rfl, ho4, ⟨t4, hs4⟩, hk4⟩ | ⟨h4, _⟩⟩
        · exfalso; rw [HSN.out] at h4; omega
        · obtain ⟨p, c, rfl, _, _, hb4, hl4, _⟩ := ho4.slice
          obtain ⟨ds, hds, hdl⟩ : ∃ ds : ByteArray, ds = ⟨((S.bs.drop (512 * k)).take 512).toArray⟩ ∧ ds.data.toList = (S.bs.drop (512 * k)).take 512 := ⟨_, rfl, rfl⟩
          have cs : (convert 22 9 (.slice p 512 c)).run Tryd.prog w4 = .ok (.string ds) w4 := by
            rw [hds]
            exact conv_at hb4 hl4 _ _ _ Tryd.underlying22 Tryd.underlying5 Tryd.underlying9 c
          have hdz : ds.size = 512 := by rw [← str_len, hdl, hl4]
          have HDL := Lib.hid hdl
          have HR4 : Hid (AllInv w g S (512 * (k + 1)) w4) := Lib.hid ⟨⟨t4, hs4⟩, HK3.out.then hk4 GNEW.out⟩
          clear ho4 hs4 hk4 hb4 hl4 hds hdl
          have hsz2 : (st.size : Int) ≤ 30000 := by omega
          have hdz2 : (ds.size : Int) ≤ 600 := by omega
          go_wp2_with fail
          go_roundw
          case rel => exact ⟨k + 1, st ++ ds, by omega, by rw [ByteArray.size_append, hsz, hdz]; omega, by go_num, rfl, Lib.hid (by rw [str_app, hst.out, HDL.out, HSB.out, take_more]; congr 1), HR4⟩
          case measure => simp [RowKit.intOf]; omega
        · exfalso; rw [HSN.out] at h4; omega
      · have hlt' : ¬ (k : Int) < (n : Int) / 512 := by omega
        have hkn : k = n / 512 := by omega
        have HKN := Lib.hid hkn
        have HST : Hid (st = ⟨(bs.take (n / 512 * 512)).toArray⟩) := Lib.hid (str_of (by rw [hst.out, hkn, Nat.mul_comm]))
        have HSZ := Lib.hid hsz
        clear hkn hsz
        go_wp2_with fail
        refine (block_any _ g _ t S HS3.out HOFF.out).mono ?_
        intro e w4 h4
        rcases h4 with ⟨h4, rfl, ⟨t4, hs4⟩, hk4⟩ | ⟨h4', ⟨h4, _⟩ | ⟨h4, rfl, ⟨t4, hs4⟩, hk4⟩⟩
        · have hs4' : Src w4 g S S.n t4 := by rw [← h4]; exact hs4
          have hmod : (n : Int) % 512 = 0 := by rw [HSN.out] at h4; omega
          have HS4 := Lib.hid hs4'
          have HK4 := Lib.hid (HK3.out.then hk4 GNEW.out)
          clear hs4 hs4' hk4 h4
          obtain ⟨m, hm⟩ : ∃ m : Nat, m = n / 512 * 512 := ⟨_, rfl⟩
          have hq : (n : Int) / 512 * 512 = (m : Int) := by omega
          have hmn : m ≤ n := by omega
          have HM := Lib.hid hm
          rw [← hm] at HST
          clear hm
          obtain ⟨X, hX⟩ : ∃ X : ByteArray, X = ⟨(bs.take m).toArray⟩ := ⟨_, rfl⟩
          rw [← hX] at HST
          have HX := Lib.hid hX
          clear hX
          obtain rfl : st = X := HST.out
          go_wp2_with fail
          refine (block_any _ g _ t4 S HS4.out HOFF.out).mono ?_
          intro e w5 h5
          rcases h5 with ⟨_, rfl, ⟨t5, hs5⟩, hk5⟩ | ⟨h5, _⟩
          case inr => exact absurd h5 (Nat.lt_irrefl _)
          have HS5 := Lib.hid hs5
          have HK5 := Lib.hid (HK4.out.then hk5 GNEW.out)
          clear hs5 hk5
          go_wp2_with fail
          refine (ans03_any _).mono ?_
          rintro e w6 ⟨rfl, hk6⟩
          have HK6 := Lib.hid (HK5.out.trans hk6)
          have HS6 := Lib.hid (HS5.out.kept0 hk6)
          clear hk6
          have cs : (convert 22 9 (.slice a0 m cap0)).run Tryd.prog w6 = .ok (.string st) w6 := by
            rw [HX.out]
            exact conv_at ((HB.out.take hmn).kept HK6.out (fun _ _ _ => id)) (by rw [List.length_take, HL.out]; omega) _ _ _ Tryd.underlying22 Tryd.underlying5 Tryd.underlying9 cap0
          go_wp2_with fail
          refine (place_any w6 g S.n t5 S HS6.out).mono ?_
          rintro e w7 ⟨rfl, rfl⟩
          rw [HSN.out]
          go_wp2
          go_ret
          exact ⟨rfl, HK6.out.below (Nat.le_refl _) (fun _ h => h.elim)⟩
        · exfalso; rw [HSN.out] at h4 h4'; have := HKN.out; omega
        · have hmod : 0 < (n : Int) % 512 := by rw [HSN.out] at h4'; have := HKN.out; omega
          have HS4 := Lib.hid hs4
          have HK4 := Lib.hid (HK3.out.then hk4 GNEW.out)
          clear hs4 hk4 h4 h4'
          obtain ⟨m, hm⟩ : ∃ m : Nat, m = n / 512 * 512 := ⟨_, rfl⟩
          have hq : (n : Int) / 512 * 512 = (m : Int) := by omega
          have hmn : m ≤ n := by omega
          have HM := Lib.hid hm
          rw [← hm] at HST
          clear hm
          obtain ⟨X, hX⟩ : ∃ X : ByteArray, X = ⟨(bs.take m).toArray⟩ := ⟨_, rfl⟩
          rw [← hX] at HST
          have HX := Lib.hid hX
          clear hX
          obtain rfl : st = X := HST.out
          go_wp2_with fail
          refine (block_any _ g _ t4 S HS4.out HOFF.out).mono ?_
          intro e w5 h5
          rcases h5 with ⟨_, rfl, ⟨t5, hs5⟩, hk5⟩ | ⟨h5, _⟩
          case inr => exact absurd h5 (Nat.lt_irrefl _)
          have HS5 := Lib.hid hs5
          have HK5 := Lib.hid (HK4.out.then hk5 GNEW.out)
          clear hs5 hk5
          go_wp2_with fail
          refine (ans03_any _).mono ?_
          rintro e w6 ⟨rfl, hk6⟩
          have HK6 := Lib.hid (HK5.out.trans hk6)
          have HS6 := Lib.hid (HS5.out.kept0 hk6)
          clear hk6
          have cs : (convert 22 9 (.slice a0 m cap0)).run Tryd.prog w6 = .ok (.string st) w6 := by
            rw [HX.out]
            exact conv_at ((HB.out.take hmn).kept HK6.out (fun _ _ _ => id)) (by rw [List.length_take, HL.out]; omega) _ _ _ Tryd.underlying22 Tryd.underlying5 Tryd.underlying9 cap0
          go_wp2_with fail
          refine (place_any w6 g S.n t5 S HS6.out).mono ?_
          rintro e w7 ⟨rfl, rfl⟩
          rw [HSN.out]
          go_wp2
          go_ret
          exact ⟨rfl, HK6.out.below (Nat.le_refl _) (fun _ h => h.elim)⟩
end Go.Proofs.YtindibabpfdljaaDoor.Walk
