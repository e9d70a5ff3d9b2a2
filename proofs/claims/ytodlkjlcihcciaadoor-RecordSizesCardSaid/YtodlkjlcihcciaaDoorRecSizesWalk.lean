/- The law RecordSizes, walked. -/
import Derived.Test.YtodlkjlcihcciaaDoorRecAns
import Derived.Test.YtodlkjlcihcciaaDoorRecSizes
import Derived.LaidMore
namespace Go.Proofs.YtodlkjlcihcciaaDoor.Walk
open Go.ChangeShapes Go.WideShapes Go.ChangeAt Go.RowKit Go.Proofs.YtodlkjlcihcciaaDoor.Base Go.Proofs.YtodlkjlcihcciaaDoor.Byt Go.Proofs.YtodlkjlcihcciaaDoor.Txt Go.Proofs.YtodlkjlcihcciaaDoor.Path Go.Proofs.YtodlkjlcihcciaaDoor.Rec Go.Lib
set_option linter.unusedVariables false
set_option maxRecDepth 100000

theorem infoOct7 : (Tryd.prog.info? 5).map (fun i => (i.zero, i.size, i.bytes)) = some (some (.int .u8 0), 1, 1) := by kernel_rfl
theorem wf_u32 {n : Int} (h : (Lit.int .u32 n).wf = true) : 0 ≤ n ∧ n ≤ 4294967295 := by
  have h1 : IntKind.u32.min = 0 := rfl
  have h2 : IntKind.u32.max = 4294967295 := rfl
  simp only [Lit.wf, Bool.and_eq_true, decide_eq_true_eq] at h
  omega
/-- so many v, then zeros -/
def fillI (j k : Nat) : List Int := List.replicate j 118 ++ List.replicate (k - j) 0
theorem fill_set (j k : Nat) (h : j < k) : ((fillI j k).map (Value.int .u8)).set j (.int .u8 118) = (fillI (j + 1) k).map (Value.int .u8) := by
  unfold fillI
  rw [← List.map_set, List.set_append_right _ _ (by simp)]
  congr 1
  rw [List.length_replicate, Nat.sub_self, show k - j = (k - (j + 1)) + 1 by omega, List.replicate_succ, List.set_cons_zero, List.replicate_succ' (n := j)]
  simp
theorem fill_get (j k : Nat) (h : j < k) : ((fillI j k).map (Value.int .u8))[j]? = some (.int .u8 0) := by
  unfold fillI
  rw [List.getElem?_map, List.getElem?_append_right (by simp), List.length_replicate, Nat.sub_self, List.getElem?_replicate, if_pos (by omega)]
  rfl
theorem fill_made (k : Nat) : (madeCells #[Value.int .u8 0] k).toList = (fillI 0 k).map (Value.int .u8) := by
  rw [toList_madeCells_one, fillI, List.replicate_zero, List.nil_append, List.map_replicate, Nat.sub_zero]
def FillRow (w0 wr : World) (k j : Nat) : Prop :=
  wr.ownsRow w0.heap.size 5 1 (.slice (some ⟨w0.heap.size, 0, none⟩) k k) k ((fillI j k).map (Value.int .u8)) ∧ Below w0.heap.size w0 wr
theorem FillRow.store {w0 wr : World} {k j : Nat} (h : FillRow w0 wr k j) (hj : j < k) : FillRow w0 (wr.setCell ⟨w0.heap.size, j, none⟩ (.int .u8 118)) k (j + 1) := by
  have := (h.1.stored j (.int .u8 118)).1
  rw [fill_set j k hj] at this
  exact ⟨this, h.2.setCell (by simp) _⟩
theorem FillRow.cell {w0 wr : World} {k j : Nat} (h : FillRow w0 wr k j) (hj : j < k) : wr.cell? ⟨w0.heap.size, j, none⟩ = some (.int .u8 0) := by
  rw [h.1.cellAt j (by omega), fill_get j k hj]
theorem FillRow.bat {w0 wr : World} {k : Nat} (h : FillRow w0 wr k k) : BAt wr (some ⟨w0.heap.size, 0, none⟩) k (List.replicate k 118) := by
  have e : fillI k k = List.replicate k 118 := by unfold fillI; rw [Nat.sub_self]; simp
  have h1 := h.1
  rw [e] at h1
  obtain ⟨p, c, hp, _, _, hb, _⟩ := bat_of_own h1 (by intro x hx; rw [(List.mem_replicate.1 hx).2]; decide)
  cases hp
  rw [show bytesOf (List.replicate k (118 : Int)) = List.replicate k 118 by unfold bytesOf; rw [List.map_replicate]; rfl] at hb
  exact hb
theorem slice_at_str (S : ByteArray) (a : Nat) (ha : a ≤ S.size) (w : World) :
    (Instr.slice 9 (.string S) (some (.int .i64 (a : Int))) none none).run Tryd.prog w = .ok (.string (str (S.data.toList.drop a))) w := by
  have fl := Tryd.underlying9
  have h2 : (a : Int) ≤ (S.size : Int) := by omega
  rw [← ext_end]
  simp [go_sem, Instr.slice, Instr.sliceBounds, Result.andThen, h2]
set_option maxHeartbeats 8000000 in
theorem recordSizes (n : Int) (w : World) (w0 : (Lit.int .u32 n).wf = true) (hT : Need w) :
    Calls Tryd.prog 6 #[.int .u32 n] w fun e w' => e = .returned (.bool true) ∧ Below w.heap.size w w' := by
  obtain ⟨hn0, hn1⟩ := wf_u32 w0
  obtain ⟨K, hK⟩ : ∃ K : Nat, n % 20000 = (K : Int) := ⟨(n % 20000).toNat, by omega⟩
  have hK2 : K < 20000 := by omega
  obtain ⟨i0, hi, hz0, hz1, hz2⟩ := info_parts infoOct7
  have HI := Lib.hid hi
  have HZ0 := Lib.hid hz0
  have HZ1 := Lib.hid hz1
  have HZ2 := Lib.hid hz2
  have HT := Lib.hid hT
  clear hi hz0 hz1 hz2 w0 hT
  go_enter Tryd.func6, Tryd.ntmps6
  go_wp2_with (at_make; refine wpList_make_full _ rfl _ _ 22 rfl w.heap.size 5 i0 (.int .u8 0) 1 Tryd.underlying22 HI.out HZ0.out HZ1.out .i64 .i64 _ _ K rfl rfl rfl rfl (by rw [HZ2.out]; omega) (by unfold maxLen; omega) (Nat.le_refl _) ?_)
  intro w1 hown hgrow
  have HR : Hid (FillRow w w1 K 0) := Lib.hid ⟨by rw [← fill_made]; exact hown, (Below.refl _ _).grown hgrow (Nat.le_refl _) (by intro k hk; cases hk)⟩
  clear hown hgrow
  go_wp2_with fail
  go_loopw [5] (fun i wr => ∃ (j : Nat), j ≤ K ∧ i = .int .i64 (j : Int) ∧ Hid (FillRow w wr K j)) (fun i _ => K - (RowKit.intOf i).toNat)
  case atStart => exact ⟨0, Nat.zero_le _, rfl, HR⟩
  case round =>
    obtain ⟨j, hj, rfl, hr⟩ := hrel
    by_cases hlt : j < K
    · have hcell := hr.out.cell hlt
      have hfz : wr.frozen? ⟨w.heap.size, j, none⟩ = false := hr.out.1.frozenAt j
      have hltz : (j : Int) < (K : Int) := by omega
      have HS := Lib.hid (hr.out.store hlt)
      go_wp2_with fail
      go_roundw
      case rel => exact ⟨j + 1, by omega, by go_num, HS⟩
      case measure => simp [RowKit.intOf]; omega
    · have hjK : K = j := by omega
      subst hjK
      have hks : ¬ ((K : Int) < (K : Int)) := by omega
      have HB := Lib.hid hr.out.2
      obtain ⟨V, hV⟩ : ∃ V, V = List.replicate K (118 : UInt8) := ⟨_, rfl⟩
      have hbat := hr.out.bat
      rw [← hV] at hbat
      have HBAT := Lib.hid hbat
      have hVl : V.length = K := by rw [hV, List.length_replicate]
      have HVL := Lib.hid hVl
      have HMAY : Hid (mayD [107] V = true) := Lib.hid (by rw [hV]; exact may_sizes K hK2)
      obtain ⟨d, hd, hne, hsp, h48, hwh, hd1, hd7, hlen⟩ := line_sizes K hK2
      rw [← hV] at hd hne hsp h48 hwh hlen
      have cv := conv_at hbat hVl _ _ _ Tryd.underlying22 Tryd.underlying5 Tryd.underlying9 K
      obtain ⟨D, hD⟩ : ∃ D, d.length = D := ⟨_, rfl⟩
      rw [hD] at hne hsp hd1 hd7 hlen
      have HD := Lib.hid hd
      have HDD := Lib.hid hD
      have HNE := Lib.hid hne
      have HSP := Lib.hid hsp
      have H48 := Lib.hid h48
      have HWH := Lib.hid hwh
      have HLEN := Lib.hid hlen
      clear hd hne hsp h48 hwh hlen hbat hVl hV hD hr
      go_wp2_with fail
      rw [show (⟨V.toArray⟩ : ByteArray) = str V from rfl]
      refine (recLine_of [107] V (lineD [107] V) true HMAY.out rfl _ (by decide) (by rw [HVL.out]; omega) (by rw [HVL.out]; simp only [List.length_cons, List.length_nil]; omega) (HT.out.below HB.out)).mono ?_
      rintro e w2 ⟨rfl, hb2⟩
      have HB2 := Lib.hid (HB.out.trans (hb2.mono HB.out.size))
      have HBAT2 := Lib.hid (HBAT.out.below hb2)
      obtain ⟨s, hs⟩ : ∃ s, str (lineD [107] V) = s := ⟨_, rfl⟩
      have HSD : Hid (s.data.toList = lineD [107] V) := Lib.hid (by rw [← hs, str_data])
      have HSZ : Hid (s.size = D + K + 4) := Lib.hid (by rw [← hs, str_size, HLEN.out])
      have hDs : D < s.size := by rw [HSZ.out]; omega
      have hss : (s.size : Int) ≤ 1000000 := by rw [HSZ.out]; omega
      rw [hs]
      clear hs hb2 cv
      go_wp2_with fail
      go_loop [8] (fun i => ∃ (k : Nat), k ≤ D ∧ i = .int .i64 (k : Int)) (fun i => D - (RowKit.intOf i).toNat)
      case atStart => exact ⟨0, Nat.zero_le _, rfl⟩
      case round =>
        obtain ⟨k, hk, rfl⟩ := hrel
        have hks2 : k < s.size := by omega
        have hksz : (k : Int) < (s.size : Int) := by omega
        by_cases hkD : k < D
        · have hb32 : (((s[k]).toNat : Int) != 32) = true := by
            have h1 := HNE.out k hkD
            rw [← HSD.out, idx_list s k hks2] at h1
            have : ¬ (s[k]).toNat = 32 := fun e => h1 (UInt8.toNat_inj.1 e)
            simp; omega
          go_wp2
          go_round
          case rel => exact ⟨k + 1, by omega, by go_num⟩
          case measure => simp [RowKit.intOf]; omega
        · have hkD2 : D = k := by omega
          subst hkD2
          have hb32 : (((s[D]).toNat : Int) != 32) = false := by
            have h1 := HSP.out
            rw [← HSD.out, idx_list s D hks2] at h1
            rw [h1]; rfl
          have sl := slice_to_str s D (Nat.le_of_lt hDs)
          obtain ⟨X, hX⟩ : ∃ X, str (s.data.toList.take D) = X := ⟨_, rfl⟩
          rw [hX] at sl
          have HWV : Hid (wholeV (wholeD X.data.toList) = .tuple #[.int .i64 (s.size : Int), .bool true]) := Lib.hid (by
            rw [← hX, str_data, HSD.out, HD.out, List.take_left' HDD.out, HWH.out]
            show Value.tuple #[.int .i64 ((lineD [107] V).length : Int), .bool true] = _
            rw [← HSD.out, ← size_of])
          have h0s : 0 < s.size := by omega
          have hb48 : (((s[0]).toNat : Int) != 48) = true := by
            have h1 := H48.out
            rw [← HSD.out, idx_list s 0 h0s] at h1
            have : ¬ (s[0]).toNat = 48 := fun e => h1 (UInt8.toNat_inj.1 e)
            simp; omega
          have sa := slice_at_str s D (Nat.le_of_lt hDs)
          obtain ⟨B, hB⟩ : ∃ B, str (s.data.toList.drop D) = B := ⟨_, rfl⟩
          rw [hB] at sa
          obtain ⟨Z, hZ⟩ : ∃ Z, str V = Z := ⟨_, rfl⟩
          have hsum : (⟨#[32, 107, 61]⟩ : ByteArray) ++ Z ++ ⟨#[10]⟩ = B := by
            rw [← hB, ← hZ, HSD.out, HD.out, List.drop_left' HDD.out, show (⟨#[32, 107, 61]⟩ : ByteArray) = str [32, 107, 61] from rfl, show (⟨#[10]⟩ : ByteArray) = str [10] from rfl, Txt.str_app, Txt.str_app]
            rfl
          have hBB : (B.toList == B.toList) = true := by simp
          have hZs : (Z.size : Int) ≤ 20000 := by rw [← hZ, str_size, HVL.out]; omega
          have HCV : Hid (∀ w', Below w2.heap.size w2 w' → (convert 22 9 (.slice (some ⟨w.heap.size, 0, none⟩) K K)).run Tryd.prog w' = .ok (.string Z) w') := Lib.hid (fun w' h => by
            rw [← hZ]
            exact conv_at (HBAT2.out.below h) HVL.out _ _ _ Tryd.underlying22 Tryd.underlying5 Tryd.underlying9 K)
          have HBB : Hid (Below w2.heap.size w2 w2.drew) := Lib.hid (below_drewN (Below.refl w2.heap.size w2) 1)
          clear hX hB hZ
          go_wp2_with fail
          refine (whole_any X w2).mono ?_
          rintro e w3 ⟨rfl, rfl⟩
          rw [HWV.out]
          go_wp2_with fail
          go_region_held_law (fun w' => Sem.run Tryd.prog (convert 22 9 (.slice (some ⟨w.heap.size, 0, none⟩) K K)) w' = .ok (.string Z) w') (exact HCV.out _ HBB.out) (first
            | (go_at_call 9
               refine (ans06_any _ (HT.out.below (HB2.out.trans (HBB.out.mono HB2.out.size)))).mono ?_
               rintro e wa ⟨rfl, hba⟩
               have HBB := Lib.hid (HBB.out.trans (hba.mono HBB.out.size))
               clear hba))
          all_goals
            have HF := Lib.hid (HB2.out.trans (HBB.out.mono HB2.out.size))
            go_wp2
            go_ret
            exact ⟨rfl, HF.out⟩
end Go.Proofs.YtodlkjlcihcciaaDoor.Walk
