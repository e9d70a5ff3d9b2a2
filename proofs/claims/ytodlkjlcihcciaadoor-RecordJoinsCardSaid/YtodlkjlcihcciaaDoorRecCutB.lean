/- Layer record's cut, by contract: the first line of any bytes; bytes.Cut at a blank laid at this dump. -/
import Derived.Test.YtodlkjlcihcciaaDoorRecNum
import Derived.Test.YtodlkjlcihcciaaDoorCutb
import Derived.Test.YtodlkjlcihcciaaDoorBytApp
import Derived.Lib.SlBytesConst
namespace Go.Proofs.YtodlkjlcihcciaaDoor.Rec
open Go.ChangeShapes Go.WideShapes Go.ChangeAt Go.RowKit Go.Shelf Go.Proofs.YtodlkjlcihcciaaDoor.Base Go.Proofs.YtodlkjlcihcciaaDoor.Byt Go.Proofs.YtodlkjlcihcciaaDoor.Txt Go.Proofs.YtodlkjlcihcciaaDoor.Path Go.Proofs.YtodlkjlcihcciaaDoor.Num Go.Lib
set_option linter.unusedVariables false
set_option maxRecDepth 100000

theorem mark_cell (w : World) (t : TypeId) (x : Int) : (w.alloc (.cells #[.int .u8 x] t (1, 2))).cell? ⟨w.heap.size, 0, none⟩ = some (.int .u8 x) := by
  rw [World.cell?_alloc_mark]
  rfl
theorem bcutI_any (b o n c b2 : Nat) (bs : List UInt8) (w : World) (hn : bs.length = n) (hc : n ≤ c) (hm : n ≤ 1000000000000) (h : BAt w (some ⟨b, o, none⟩) n bs) (h2 : w.cell? ⟨b2, 0, none⟩ = some (.int .u8 32)) :
    Calls Tryd.prog 25 #[.slice (some ⟨b, o, none⟩) n c, .slice (some ⟨b2, 0, none⟩) 1 1] w fun e w' => e = .returned (Lib.cutV (some ⟨b, o, none⟩) n c 1 (Lib.indexByte bs 32)) ∧ ∃ q, w' = w.drewN q := by
  have hnb : bytesOf (nums bs) = bs := bytesOf_nums bs
  have hidx := Any.bytes_Index_one Tryd.laysCut.index b o n c b2 0 1 (nums bs) 32 w (by rw [nums_length, hn]) (fun i hi => by
    obtain ⟨b', o', he, hcell⟩ := h (by omega)
    cases he
    rw [hcell i hi]
    simp [nums, List.getD, List.getElem?_eq_getElem (show i < bs.length by omega)]) h2
  rw [hnb, show (32 : Int).toNat.toUInt8 = 32 from rfl] at hidx
  have hroom : 0 ≤ Lib.indexByte bs 32 → Lib.indexByte bs 32 + (1 : Nat) ≤ n := fun h0 => by
    obtain ⟨k, hk⟩ : ∃ k : Nat, Lib.indexByte bs 32 = k := ⟨(Lib.indexByte bs 32).toNat, by omega⟩
    have := (Lib.indexByte_some hk).1
    have hlt := (List.getElem?_eq_some_iff.1 this).1
    omega
  exact Any.bytes_Cut_of Tryd.laysCut (some ⟨b, o, none⟩) (some ⟨b2, 0, none⟩) n c 1 1 (Lib.indexByte bs 32) w hc (Lib.indexByte_ge _ _) hroom (by omega) (hidx.mono fun e w' he => ⟨he.1, 0, he.2⟩)
theorem bcut_no (b o n c b2 : Nat) (bs : List UInt8) (w : World) (hn : bs.length = n) (hc : n ≤ c) (hm : n ≤ 1000000000000) (h : BAt w (some ⟨b, o, none⟩) n bs) (h2 : w.cell? ⟨b2, 0, none⟩ = some (.int .u8 32)) (hi : Lib.indexByte bs 32 < 0) :
    Calls Tryd.prog 25 #[.slice (some ⟨b, o, none⟩) n c, .slice (some ⟨b2, 0, none⟩) 1 1] w fun e w' => e = .returned (.tuple #[.slice (some ⟨b, o, none⟩) n c, .slice none 0 0, .bool false]) ∧ ∃ q, w' = w.drewN q := by
  have := bcutI_any b o n c b2 bs w hn hc hm h h2
  unfold Lib.cutV at this
  rwa [if_neg (by omega)] at this
theorem bcut_at (b o n c b2 i r : Nat) (bs : List UInt8) (w : World) (hn : bs.length = n) (hc : n ≤ c) (hm : n ≤ 1000000000000) (h : BAt w (some ⟨b, o, none⟩) n bs) (h2 : w.cell? ⟨b2, 0, none⟩ = some (.int .u8 32)) (hi : Lib.indexByte bs 32 = (i : Int)) (hr : n = i + 1 + r) :
    Calls Tryd.prog 25 #[.slice (some ⟨b, o, none⟩) n c, .slice (some ⟨b2, 0, none⟩) 1 1] w fun e w' => ∃ q2 c2, e = .returned (.tuple #[.slice (some ⟨b, o, none⟩) i c, .slice q2 r c2, .bool true]) ∧ r ≤ c2 ∧ BAt w' q2 r (bs.drop (i + 1)) ∧ ∃ q, w' = w.drewN q := by
  refine (bcutI_any b o n c b2 bs w hn hc hm h h2).mono ?_
  rintro e w' ⟨rfl, q, rfl⟩
  unfold Lib.cutV
  rw [if_pos (by omega), hi, Int.toNat_natCast]
  have hd := h.drop (k := i + 1) (c := c) (by omega) hc hn
  rw [show n - (i + 1) = r by omega] at hd
  refine ⟨_, c - (i + 1), ?_, by omega, hd.below (below_drewN (Below.refl _ _) q), q, rfl⟩
  unfold Lib.fromV
  rw [show n - (i + 1) = r by omega]
/-- a line that is cut off, as the package hands it back -/
def cutR (r : Option (List UInt8 × Nat)) : Value := match r with
  | some (t, m) => .tuple #[.string (str t), .int .i64 (m : Int), .bool true]
  | none => .tuple #[.string ⟨#[]⟩, .int .i64 0, .bool false]
set_option maxHeartbeats 1000000 in
theorem recCut_any (b o n c : Nat) (bs : List UInt8) (w : World) (hn : bs.length = n) (hc : n ≤ c) (hm : n ≤ 1000000000000) (h : BAt w (some ⟨b, o, none⟩) n bs) (hN : Need w) :
    Calls Tryd.prog 18 #[.slice (some ⟨b, o, none⟩) n c] w fun e w' => e = .returned (cutR (cutD bs)) ∧ Below w.heap.size w w' := by
  have C5 := Lib.run_convert_bytes_const (P := Tryd.prog) w 22 5 #[.int .u8 32] 1 1 Tryd.underlying22 Tryd.underlying5
  obtain ⟨wm, hwm⟩ : ∃ wm, w.alloc (.cells #[.int .u8 32] 5 (1, 2)) = wm := ⟨_, rfl⟩
  have hba : Below w.heap.size w wm := by rw [← hwm]; exact (Below.refl _ _).alloc (Nat.le_refl _) _
  have HA := Lib.hid hba
  have HM := Lib.hid (by rw [← hwm]; exact mark_cell w 5 32 : wm.cell? ⟨w.heap.size, 0, none⟩ = some (.int .u8 32))
  have H := Lib.hid h
  have HT := Lib.hid hN
  have HN := Lib.hid hn
  rw [show ((#[.int .u8 32] : Array Value).size, (#[.int .u8 32] : Array Value).size + 1) = (1, 2) from rfl, hwm] at C5
  clear hba h hN hwm
  by_cases h0 : Lib.indexByte bs 32 < 0
  · have e : cutD bs = none := by unfold cutD; rw [if_pos h0]
    rw [e]
    have HI := Lib.hid h0
    clear e h0
    go_enter Tryd.func18, Tryd.ntmps18
    go_wp2_with fail
    refine (bcut_no b o n c w.heap.size bs wm HN.out hc hm (H.out.below HA.out) HM.out HI.out).mono ?_
    rintro e w1 ⟨rfl, q, rfl⟩
    have HB := Lib.hid (below_drewN HA.out q)
    go_wp2
    go_ret3
    exact ⟨rfl, HB.out⟩
  · obtain ⟨i, hi⟩ : ∃ i : Nat, Lib.indexByte bs 32 = i := ⟨(Lib.indexByte bs 32).toNat, by omega⟩
    obtain ⟨hil, _, _⟩ := digN_blank bs i hi
    obtain ⟨r, hr⟩ : ∃ r, n = i + 1 + r := ⟨n - (i + 1), by omega⟩
    have hti : (bs.take i).length = i := by rw [List.length_take]; omega
    have HD : Hid (cutD bs = match numD (bs.take i) with
      | none => none
      | some m => if m < i + 4 ∨ bs.length < m ∨ bs.getD (m - 1) 0 ≠ 10 then none else some ((bs.drop (i + 1)).take (m - 1 - (i + 1)), m)) := Lib.hid (by
        unfold cutD
        rw [if_neg h0, hi, Int.toNat_natCast]
        cases numD (bs.take i) <;> rfl)
    have HI := Lib.hid (And.intro hi hr)
    have HTI := Lib.hid hti
    have hi12 : (i : Int) ≤ 1000000000000 := by omega
    have hr12 : (r : Int) ≤ 1000000000000 := by omega
    have HIM : Hid (i ≤ 1000000000000 ∧ i ≤ n) := Lib.hid (by omega)
    clear hi h0 hti hil
    cases hnum : numD (bs.take i) with
    | none =>
      rw [hnum] at HD
      have HU : Hid (∀ w, BAt w (some ⟨b, o, none⟩) i (bs.take i) → Need w → Calls Tryd.prog 26 #[.slice (some ⟨b, o, none⟩) i c] w fun e w' => e = .returned (.tuple #[.int .i64 0, .bool false]) ∧ Below w.heap.size w w') := Lib.hid (fun w h1 h2 => by
        have := recNum_any (some ⟨b, o, none⟩) i c (bs.take i) w HTI.out HIM.out.1 h1 h2
        rw [hnum] at this
        exact this)
      rw [HD.out]
      clear hnum HD hr
      go_enter Tryd.func18, Tryd.ntmps18
      go_wp2_with fail
      refine (bcut_at b o n c w.heap.size i r bs wm HN.out hc hm (H.out.below HA.out) HM.out HI.out.1 HI.out.2).mono ?_
      rintro e w1 ⟨q2, c2, rfl, _, _, q, rfl⟩
      have HB := Lib.hid (below_drewN HA.out q)
      go_wp2_with fail
      refine (HU.out _ ((H.out.take HIM.out.2).below HB.out) (HT.out.below HB.out)).mono ?_
      rintro e w2 ⟨rfl, hb2⟩
      have HB2 := Lib.hid (HB.out.trans (hb2.mono HB.out.size))
      clear hb2
      go_wp2
      go_ret3
      exact ⟨rfl, HB2.out⟩
    | some m =>
      have hm7 := (numD_some hnum).2.2.2.2.2
      rw [hnum] at HD
      have HU : Hid (∀ w, BAt w (some ⟨b, o, none⟩) i (bs.take i) → Need w → Calls Tryd.prog 26 #[.slice (some ⟨b, o, none⟩) i c] w fun e w' => e = .returned (.tuple #[.int .i64 (m : Int), .bool true]) ∧ Below w.heap.size w w') := Lib.hid (fun w h1 h2 => by
        have := recNum_any (some ⟨b, o, none⟩) i c (bs.take i) w HTI.out HIM.out.1 h1 h2
        rw [hnum] at this
        exact this)
      have hm7i : (m : Int) < 10000000 := by omega
      by_cases hbad : m < i + 4 ∨ n < m
      · have hin : inB ((m : Int) - (i : Int) - 1) 3 (r : Int) = false := inB_false (by omega)
        have HE : Hid (cutD bs = none) := Lib.hid (by
          rw [HD.out]
          simp only
          rw [if_pos (by rw [HN.out]; rcases hbad with h | h; exact .inl h; exact .inr (.inl h))])
        rw [HE.out]
        have HIN := Lib.hid hin
        clear hnum HD hr hm7 hin hbad
        go_enter Tryd.func18, Tryd.ntmps18
        go_wp2_with fail
        refine (bcut_at b o n c w.heap.size i r bs wm HN.out hc hm (H.out.below HA.out) HM.out HI.out.1 HI.out.2).mono ?_
        rintro e w1 ⟨q2, c2, rfl, _, _, q, rfl⟩
        have HB := Lib.hid (below_drewN HA.out q)
        go_wp2_with fail
        refine (HU.out _ ((H.out.take HIM.out.2).below HB.out) (HT.out.below HB.out)).mono ?_
        rintro e w2 ⟨rfl, hb2⟩
        have HB2 := Lib.hid (HB.out.trans (hb2.mono HB.out.size))
        clear hb2
        go_wp2_with fail
        refine (in_any _ _ _ _).mono ?_
        rw [HIN.out]
        rintro e w3 ⟨rfl, rfl⟩
        go_wp2
        go_ret3
        exact ⟨rfl, HB2.out⟩
      · obtain ⟨v, hv⟩ : ∃ v, m = i + 2 + v := ⟨m - (i + 2), by omega⟩
        have hin : inB ((v : Int) + 1) 3 (r : Int) = true := inB_true (by omega) (by omega)
        have HIN := Lib.hid hin
        have hown : (m : Int) - (i : Int) - 1 = (v : Int) + 1 := by omega
        have hvr : (v : Int) < (r : Int) := by omega
        have HVR : Hid (v < r ∧ v ≤ r) := Lib.hid (by omega)
        obtain ⟨C, hC⟩ : ∃ C : Nat, (bs.getD (m - 1) 0).toNat = C := ⟨_, rfl⟩
        have HC : Hid (((bs.drop (i + 1)).getD v 0).toNat = C) := Lib.hid (by
          rw [← hC, show m - 1 = i + 1 + v by omega]
          simp [List.getD])
        have HDL : Hid ((bs.drop (i + 1)).length = r) := Lib.hid (by rw [List.length_drop]; omega)
        by_cases h10 : bs.getD (m - 1) 0 = 10
        · have hb : ((C : Int) != 10) = false := by rw [← hC, h10]; rfl
          have HE : Hid (cutD bs = some ((bs.drop (i + 1)).take v, m)) := Lib.hid (by
            rw [HD.out]
            simp only
            rw [if_neg (by
              rw [HN.out]
              rintro (h | h | h)
              · exact hbad (.inl h)
              · exact hbad (.inr h)
              · exact h h10), show m - 1 - (i + 1) = v by omega])
          rw [HE.out]
          clear hnum HD hr hm7 hin hbad hC h10 hv
          go_enter Tryd.func18, Tryd.ntmps18
          go_wp2_with fail
          refine (bcut_at b o n c w.heap.size i r bs wm HN.out hc hm (H.out.below HA.out) HM.out HI.out.1 HI.out.2).mono ?_
          rintro e w1 ⟨q2, c2, rfl, hr2, hbt, q, rfl⟩
          have HB := Lib.hid (below_drewN HA.out q)
          have HBT := Lib.hid hbt
          clear hbt
          go_wp2_with fail
          refine (HU.out _ ((H.out.take HIM.out.2).below HB.out) (HT.out.below HB.out)).mono ?_
          rintro e w2 ⟨rfl, hb2⟩
          have HB2 := Lib.hid (HB.out.trans (hb2.mono HB.out.size))
          have HBT2 := Lib.hid (HBT.out.below hb2)
          clear hb2
          obtain ⟨b3, o3, rfl, hc3⟩ := HBT2.out (by have := HVR.out; omega)
          have g0 := hc3 v HVR.out.1
          rw [HC.out] at g0
          have cs := conv_at (HBT2.out.take HVR.out.2) (by rw [List.length_take, HDL.out]; have := HVR.out; omega) 22 5 9 Tryd.underlying22 Tryd.underlying5 Tryd.underlying9 c2
          have HE3 : Hid ((⟨((bs.drop (i + 1)).take v).toArray⟩ : ByteArray) = str ((bs.drop (i + 1)).take v)) := Lib.hid rfl
          clear hc3
          go_wp2_with fail
          refine (in_any _ _ _ _).mono ?_
          rw [HIN.out]
          rintro e w3 ⟨rfl, rfl⟩
          go_wp2
          go_ret3
          exact ⟨rfl, HB2.out⟩
        · have hb : ((C : Int) != 10) = true := by
            have : ¬ C = 10 := fun e => h10 (UInt8.toNat_inj.1 (by rw [hC, e]; rfl))
            simp; omega
          have HE : Hid (cutD bs = none) := Lib.hid (by
            rw [HD.out]
            simp only
            rw [if_pos (.inr (.inr h10))])
          rw [HE.out]
          clear hnum HD hr hm7 hin hbad hC h10 hv
          go_enter Tryd.func18, Tryd.ntmps18
          go_wp2_with fail
          refine (bcut_at b o n c w.heap.size i r bs wm HN.out hc hm (H.out.below HA.out) HM.out HI.out.1 HI.out.2).mono ?_
          rintro e w1 ⟨q2, c2, rfl, hr2, hbt, q, rfl⟩
          have HB := Lib.hid (below_drewN HA.out q)
          have HBT := Lib.hid hbt
          clear hbt
          go_wp2_with fail
          refine (HU.out _ ((H.out.take HIM.out.2).below HB.out) (HT.out.below HB.out)).mono ?_
          rintro e w2 ⟨rfl, hb2⟩
          have HB2 := Lib.hid (HB.out.trans (hb2.mono HB.out.size))
          have HBT2 := Lib.hid (HBT.out.below hb2)
          clear hb2
          obtain ⟨b3, o3, rfl, hc3⟩ := HBT2.out (by have := HVR.out; omega)
          have g0 := hc3 v HVR.out.1
          rw [HC.out] at g0
          clear hc3
          go_wp2_with fail
          refine (in_any _ _ _ _).mono ?_
          rw [HIN.out]
          rintro e w3 ⟨rfl, rfl⟩
          go_wp2
          go_ret3
          exact ⟨rfl, HB2.out⟩
end Go.Proofs.YtodlkjlcihcciaaDoor.Rec
