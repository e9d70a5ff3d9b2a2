import Derived.Test.YtdjedimjhogdoaaGreatDoorZ8
import Derived.Test.YtdjedimjhogdoaaGreatDoorZ2
import Derived.Test.YtdjedimjhogdoaaGreatDoorZ6
import Derived.Test.YtdjedimjhogdoaaGreatDoorZ4
import Derived.Deep.DeepCutAuto
import Derived.Deep.RegionHeld3
import Derived.Deep.RegionHeldLaw
import Derived.BigRegion
import Derived.BigQuiet
import Derived.Deep.QuietTactic
section
namespace Go.Proofs.YtdjedimjhogdoaaGreatDoor.Mem
open Go.ChangeShapes Go.WideShapes Go.ChangeAt Go.RowKit Go.Proofs.YtdjedimjhogdoaaGreatDoor.Base Go.Proofs.YtdjedimjhogdoaaGreatDoor.Byt Go.Proofs.YtdjedimjhogdoaaGreatDoor.Txt Go.Proofs.YtdjedimjhogdoaaGreatDoor.Bk Go.Proofs.YtdjedimjhogdoaaGreatDoor.Hp Go.Proofs.YtdjedimjhogdoaaGreatDoor.Head Go.Proofs.YtdjedimjhogdoaaGreatDoor.Num Go.Proofs.YtdjedimjhogdoaaGreatDoor.Path Go.Proofs.YtdjedimjhogdoaaGreatDoor.Block Go.Proofs.YtdjedimjhogdoaaGreatDoor.Rec Go.Proofs.YtdjedimjhogdoaaGreatDoor.Attr Go.Proofs.YtdjedimjhogdoaaGreatDoor.Mp Go.Lib
set_option linter.unusedVariables false
set_option maxRecDepth 100000

/-- what Put keeps throughout: the member's box, the header's as it is now -/
structure PM (w : World) (M : Array Value) (wx : World) (h : HeadV) : Prop where
  bel : Below w.heap.size w wx
  mem : Blk wx w.heap.size 37 M
  hd : Blk wx (w.heap.size + 1) 57 (headC h)
theorem PM.below {w : World} {M : Array Value} {wx wy : World} {h : HeadV} (hm : PM w M wx h) (hb : Below wx.heap.size wx wy) : PM w M wy h :=
  ⟨hm.bel.trans (hb.mono hm.bel.size), hm.mem.below hb hm.mem.lt, hm.hd.below hb hm.hd.lt⟩
theorem PM.kept {w : World} {M : Array Value} {wx wy : World} {h : HeadV} (hm : PM w M wx h) (hk : Kept noneB wx wy) : PM w M wy h := hm.below (hk.below (Nat.le_refl _) (fun _ h => h.elim))
theorem PM.set {w : World} {M : Array Value} {wx : World} {h h' : HeadV} (hm : PM w M wx h) (i : Nat) (v : Value) (hb : Blk (wx.setCell ⟨w.heap.size + 1, i, none⟩ v) (w.heap.size + 1) 57 (headC h')) : PM w M (wx.setCell ⟨w.heap.size + 1, i, none⟩ v) h' :=
  ⟨hm.bel.setCell (p := ⟨w.heap.size + 1, i, none⟩) (Nat.le_succ _) v, hm.mem.other (by omega) v, hb⟩
theorem rcutV_is (l : List UInt8) : ∃ a b, Head.cutV l = .tuple #[.string a, .string b, .bool (cutR l).isSome] := by
  unfold Head.cutV
  cases cutR l with
  | none => exact ⟨_, _, rfl⟩
  | some x => exact ⟨_, _, rfl⟩
theorem ownB_row {w : World} {g B : Nat} {bs : List UInt8} (h : RowB w g bs) (hB : B ≤ g) (hc : bs.length ≤ maxLen) : OwnB w B (.slice (some ⟨g, 0, none⟩) bs.length bs.length) bs.length bs := by
  refine ⟨by simp [nums], .inr ⟨g, bs.length, (bs.map bv).toArray, rfl, hB, h, Nat.le_refl _, hc, by simp, ?_⟩⟩
  rw [Nat.mul_one, List.take_of_length_le (by simp)]
  unfold nums
  rw [List.map_map]
  rfl
theorem target_le {m : MemV} (h : GoodM m) : m.target.length ≤ 200 := by
  rcases h.kind with k | k | k | k
  · rw [h.none (.inl k)]; simp
  · exact ((clean_ok 9 6 (by decide) (by decide) _ _).1 (h.hard k)).2.2.2.2.2
  · have := h.sym k
    unfold targetD at this
    split at this
    · cases this
    · split at this
      · cases this
      · omega
  · rw [h.none (.inr k)]; simp
theorem wf_i64 {n : Int} (h0 : 0 ≤ n) (h1 : n ≤ 9223372036854775807) : (Lit.int .i64 n).wf = true := by
  have e1 : IntKind.i64.min = -9223372036854775808 := rfl
  have e2 : IntKind.i64.max = 9223372036854775807 := rfl
  simp only [Lit.wf, Bool.and_eq_true, decide_eq_true_eq]
  omega
theorem headM_wf {m : MemV} (h : GoodM m) : ∀ i, (Lit.int .i64 (numH (headM m) i)).wf = true := by
  have h1 := h.mode
  have h2 := h.uid
  have h3 := h.gid
  have h4 := h.time
  have h5 := h.body
  intro i
  unfold numH headM
  split
  · exact wf_i64 (n := m.mode) h1.1 (by omega)
  · simp only; split <;> exact wf_i64 (by omega) (by omega)
  · simp only; split <;> exact wf_i64 (by omega) (by omega)
  · exact wf_i64 (n := (m.body.length : Int)) (by omega) (by omega)
  · simp only; split <;> exact wf_i64 (by omega) (by omega)
  · exact wf_i64 (by omega) (by omega)
theorem headM_tx {m : MemV} (h : GoodM m) : (headM m).name.length ≤ 140737488351232 ∧ (headM m).link.length ≤ 140737488351232 := by
  have h1 := h.pathL
  have h2 := target_le h
  unfold headM
  constructor
  · simp only; split
    · decide
    · omega
  · simp only; split
    · decide
    · omega
theorem paxH_wf {n : Nat} (h : n ≤ 1048576) : ∀ i, (Lit.int .i64 (numH (paxH n) i)).wf = true := by
  intro i
  unfold numH paxH
  split
  · exact wf_i64 (n := 0) (by omega) (by omega)
  · exact wf_i64 (n := 0) (by omega) (by omega)
  · exact wf_i64 (n := 0) (by omega) (by omega)
  · exact wf_i64 (n := (n : Int)) (by omega) (by omega)
  · exact wf_i64 (n := 0) (by omega) (by omega)
  · exact wf_i64 (by omega) (by omega)
set_option maxHeartbeats 16000000 in
theorem rput_any (m : MemV) (p : Option Addr) (c : Nat) (w : World) (hg : GoodM m) (hb : BAt w p m.body.length m.body) :
    Calls Tryz.prog 44 #[.agg (memC m p c)] w (PadPost w (putM m)) := by
  have hpl := hg.pathL
  have htl : m.target.length ≤ 200 := target_le hg
  obtain ⟨bl, hbl⟩ : ∃ bl, m.body.length = bl := ⟨_, rfl⟩
  have hblm : bl ≤ 1048576 := by rw [← hbl]; exact hg.body
  obtain ⟨u, hu⟩ : ∃ u : Nat, m.uid = (u : Int) := ⟨m.uid.toNat, by have := hg.uid; omega⟩
  obtain ⟨g, hgg⟩ : ∃ g : Nat, m.gid = (g : Int) := ⟨m.gid.toNat, by have := hg.gid; omega⟩
  obtain ⟨t, ht⟩ : ∃ t : Nat, m.time = (t : Int) := ⟨m.time.toNat, by have := hg.time; omega⟩
  have hun : u < 1000000000000000000 := by have := hg.uid; omega
  have hgn : g < 1000000000000000000 := by have := hg.gid; omega
  have htn : t < 1000000000000000000 := by have := hg.time; omega
  obtain ⟨b0, hb0⟩ : ∃ b, (cutR m.path).isSome = b := ⟨_, rfl⟩
  obtain ⟨f0, hf0⟩ : ∃ b, fitsD m.path = b := ⟨_, rfl⟩
  obtain ⟨f1, hf1⟩ : ∃ b, fitsD m.target = b := ⟨_, rfl⟩
  obtain ⟨lp, hlp⟩ : ∃ b, longP m = b := ⟨_, rfl⟩
  obtain ⟨ll, hll⟩ : ∃ b, longL m = b := ⟨_, rfl⟩
  have HLP : Hid (lp = (!b0 || !f0)) := Lib.hid (by
    rw [← hlp, ← hb0, ← hf0]
    unfold longP
    cases cutR m.path <;> rfl)
  have HLL : Hid (ll = (decide (100 < m.target.length) || !f1)) := Lib.hid (by rw [← hll, ← hf1]; rfl)
  obtain ⟨S1, hS1⟩ : ∃ S, (if lp then lineD (keyT 4) m.path else []) = S := ⟨_, rfl⟩
  obtain ⟨S2, hS2⟩ : ∃ S, S1 ++ (if ll then lineD (keyT 5) m.target else []) = S := ⟨_, rfl⟩
  obtain ⟨S3, hS3⟩ : ∃ S, S2 ++ (if 2097151 < u then lineD (keyT 0) (decL u) else []) = S := ⟨_, rfl⟩
  obtain ⟨S4, hS4⟩ : ∃ S, S3 ++ (if 2097151 < g then lineD (keyT 1) (decL g) else []) = S := ⟨_, rfl⟩
  obtain ⟨S5, hS5⟩ : ∃ S, S4 ++ (if 8589934591 < t then lineD (keyT 2) (decL t) else []) = S := ⟨_, rfl⟩
  have HS5 : Hid (linesD (recsM m) = S5) := Lib.hid (by
    have e : ∀ (c : Prop) [Decidable c] (k v : List UInt8), linesD (if c then [(k, v)] else []) = if c then lineD k v else [] := fun c _ k v => by
      split <;> simp [linesD]
    have ea : ∀ a b : RecL, linesD (a ++ b) = linesD a ++ linesD b := fun a b => by simp [linesD]
    rw [← hS5, ← hS4, ← hS3, ← hS2, ← hS1]
    unfold recsM
    rw [ea, ea, ea, ea, e, e, e, e, e, hlp, hll, hu, hgg, ht]
    simp only [Int.toNat_natCast]
    congr 1
    · congr 1
      · congr 1
        split <;> split <;> first | rfl | omega
      · split <;> split <;> first | rfl | omega
    · split <;> split <;> first | rfl | omega)
  have HSL : Hid (S1.length ≤ S2.length ∧ S2.length ≤ S3.length ∧ S3.length ≤ S4.length ∧ S4.length ≤ S5.length) := Lib.hid (by
    rw [← hS5, ← hS4, ← hS3, ← hS2]
    simp only [List.length_append]
    omega)
  have HS5L : Hid (S5.length ≤ 1048576) := Lib.hid (by rw [← HS5.out]; exact linesM_le hg)
  obtain ⟨h1, hh1⟩ : ∃ h : HeadV, HeadV.mk (if lp then longN else m.path) m.target m.kind m.mode (u : Int) (g : Int) (t : Int) (bl : Int) false = h := ⟨_, rfl⟩
  obtain ⟨h2, hh2⟩ : ∃ h : HeadV, { h1 with link := if ll then longN else m.target } = h := ⟨_, rfl⟩
  obtain ⟨h3, hh3⟩ : ∃ h : HeadV, { h2 with uid := if 2097151 < u then 0 else (u : Int) } = h := ⟨_, rfl⟩
  obtain ⟨h4, hh4⟩ : ∃ h : HeadV, { h3 with gid := if 2097151 < g then 0 else (g : Int) } = h := ⟨_, rfl⟩
  obtain ⟨h5, hh5⟩ : ∃ h : HeadV, { h4 with time := if 8589934591 < t then 0 else (t : Int) } = h := ⟨_, rfl⟩
  have HH5 : Hid (headM m = h5) := Lib.hid (by
    rw [← hh5, ← hh4, ← hh3, ← hh2, ← hh1]
    unfold headM
    rw [hlp, hll, hu, hgg, ht, hbl]
    have c1 : ((2097151 : Int) < (u : Int)) ↔ 2097151 < u := by omega
    have c2 : ((2097151 : Int) < (g : Int)) ↔ 2097151 < g := by omega
    have c3 : ((8589934591 : Int) < (t : Int)) ↔ 8589934591 < t := by omega
    simp only [c1, c2, c3])
  have HD1 := Lib.hid hS1
  have HD2 := Lib.hid hS2
  have HD3 := Lib.hid hS3
  have HD4 := Lib.hid hS4
  have HD5 := Lib.hid hS5
  have HE1 := Lib.hid hh1
  have HE2 := Lib.hid hh2
  have HE3 := Lib.hid hh3
  have HE4 := Lib.hid hh4
  have HE5 := Lib.hid hh5
  rw [hbl] at hb
  obtain ⟨W1, hW1⟩ : ∃ W1, (w.alloc (.cells #[.string (str m.path), .string (str m.target), .int .u8 (m.kind.toNat : Int), .int .i64 m.mode, .int .i64 (u : Int), .int .i64 (g : Int), .int .i64 (t : Int), .slice p bl c] 37)).alloc (.cells (headC ⟨m.path, m.target, m.kind, m.mode, (u : Int), (g : Int), (t : Int), (bl : Int), false⟩) 57) = W1 := ⟨_, rfl⟩
  have hP1 : PM w #[.string (str m.path), .string (str m.target), .int .u8 (m.kind.toNat : Int), .int .i64 m.mode, .int .i64 (u : Int), .int .i64 (g : Int), .int .i64 (t : Int), .slice p bl c] W1 ⟨m.path, m.target, m.kind, m.mode, (u : Int), (g : Int), (t : Int), (bl : Int), false⟩ := by
    have b1 := Blk.new (w.alloc (.cells #[.string (str m.path), .string (str m.target), .int .u8 (m.kind.toNat : Int), .int .i64 m.mode, .int .i64 (u : Int), .int .i64 (g : Int), .int .i64 (t : Int), .slice p bl c] 37)) 57 (headC ⟨m.path, m.target, m.kind, m.mode, (u : Int), (g : Int), (t : Int), (bl : Int), false⟩)
    rw [World.size_alloc] at b1
    rw [← hW1]
    exact ⟨((Below.refl _ w).alloc (Nat.le_refl _) _).alloc (by simp) _, (Blk.new w _ _).alloc _, b1⟩
  have HP1 := Lib.hid hP1
  have HB := Lib.hid hb
  have HG := Lib.hid hg
  have HBL := Lib.hid hbl
  have HW1 := Lib.hid hW1
  have HTN := Lib.hid (And.intro hpl htl)
  have HUN := Lib.hid (And.intro hun (And.intro hgn htn))
  have HBM := Lib.hid hblm
  obtain ⟨cx, cy, hcv⟩ := rcutV_is m.path
  rw [hb0] at hcv
  have HCV := Lib.hid hcv
  have HF0 := Lib.hid hf0
  have HF1 := Lib.hid hf1
  unfold memC
  rw [hbl, hu, hgg, ht]
  clear hP1 hb hg hbl hW1 hpl htl hcv hu hgg ht hun hgn htn hb0 hf0 hf1 hlp hll hS1 hS2 hS3 hS4 hS5 hh1 hh2 hh3 hh4 hh5 hblm
  go_enter Tryz.func44, Tryz.ntmps44
  go_upto_region 3 with fail
  rw [show (w.alloc (.cells #[.string (str m.path), .string (str m.target), .int .u8 (m.kind.toNat : Int), .int .i64 m.mode, .int .i64 (u : Int), .int .i64 (g : Int), .int .i64 (t : Int), .slice p bl c] 37)).alloc (.cells #[.string (str m.path), .string (str m.target), .int .u8 (m.kind.toNat : Int), .int .i64 m.mode, .int .i64 (u : Int), .int .i64 (g : Int), .int .i64 (t : Int), .int .i64 (bl : Int), .bool false] 57) = W1 from HW1.out]
  have y0 := HP1.out.mem.cell 0
  simp only [List.getElem?_toArray, List.getElem?_cons_zero] at y0
  go_wp2_with fail
  refine (rcut_any (str m.path) W1 (by rw [str_size]; have := HTN.out.1; omega)).mono ?_
  rw [str_data, HCV.out]
  rintro e w2 ⟨rfl, hk2⟩
  have HP2 := Lib.hid (HP1.out.kept hk2)
  clear hk2 y0
  have y0 := HP2.out.mem.cell 0
  simp only [List.getElem?_toArray, List.getElem?_cons_zero] at y0
  go_upto_region 4 with fail
  go_cut [39] (fun s39 wx => s39 = .bool lp ∧ wx = w2)
  case first =>
    cases b0 with
    | false =>
      go_wp2
      go_meet
      exact ⟨by rw [HLP.out]; rfl, rfl⟩
    | true =>
      go_wp2_with fail
      refine (rfits_any (str m.path) w2 (by rw [str_size]; have := HTN.out.1; omega)).mono ?_
      rw [str_data, HF0.out]
      rintro e w3 ⟨rfl, rfl⟩
      go_wp2
      go_meet
      exact ⟨by rw [HLP.out]; rfl, rfl⟩
  case rest =>
    obtain ⟨rfl, rfl⟩ := hcut
    go_upto_if 39 with fail
    go_cut [4] (fun s4 wx => s4 = .string (str S1) ∧ PM w #[.string (str m.path), .string (str m.target), .int .u8 (m.kind.toNat : Int), .int .i64 m.mode, .int .i64 (u : Int), .int .i64 (g : Int), .int .i64 (t : Int), .slice p bl c] wx h1)
    case first =>
      cases lp with
      | false =>
        have EH : HeadV.mk m.path m.target m.kind m.mode (u : Int) (g : Int) (t : Int) (bl : Int) false = h1 := by rw [← HE1.out]; rfl
        have ES : S1 = [] := by rw [← HD1.out]; rfl
        go_wp2
        go_meet
        exact ⟨by rw [ES]; rfl, by rw [← EH]; exact HP2.out⟩
      | true =>
        go_wp2_with fail
        refine (line_any (keyT 4) m.path _ (by have := HTN.out.1; have := HTN.out.2; simp [keyT]; omega)).mono ?_
        rintro e w3 ⟨rfl, hb3⟩
        have HP3 := Lib.hid (HP2.out.below hb3)
        clear hb3
        have b9 := HP3.out.hd
        have z0 := b9.cell 0
        have fz0 := b9.frozen 0
        simp only [headC, List.getElem?_toArray, List.getElem?_cons_zero] at z0
        clear b9
        have ES : S1 = lineD (keyT 4) m.path := by rw [← HD1.out]; rfl
        obtain ⟨A, hA⟩ : ∃ A : ByteArray, str (lineD (keyT 4) m.path) = A := ⟨_, rfl⟩
        obtain ⟨ka, hka⟩ : ∃ ka, A.size = ka := ⟨_, rfl⟩
        have hkl : (lineD (keyT 4) m.path).length = ka := by rw [← hka, ← hA, str_size]
        have hsum : ka ≤ 9223372036854775807 := by
          have h1 := congrArg List.length ES
          rw [hkl] at h1
          have h2 := HSL.out
          have h3 := HS5L.out
          omega
        have hsum0 : 0 + ka ≤ 9223372036854775807 := by omega
        rw [hA]
        clear hkl
        have HES := Lib.hid ES
        have HA := Lib.hid hA
        clear ES hA
        go_wp2
        go_meet
        exact ⟨by rw [HES.out, ← HA.out]; exact congrArg Value.string (str_app [] _), HP3.out.set 0 _ (by
          have h9 := HP3.out.hd.set 0 (.string (str longN)) (by show 0 < 9; decide)
          rw [show h1 = HeadV.mk longN m.target m.kind m.mode (u : Int) (g : Int) (t : Int) (bl : Int) false from by rw [← HE1.out]; rfl]
          exact h9)⟩
    case rest =>
      obtain ⟨rfl, hP⟩ := hcut
      have HP4 := Lib.hid hP
      clear hP y0
      go_upto_region 7 with fail
      have y1 := HP4.out.mem.cell 1
      simp only [List.getElem?_toArray, List.getElem?_cons_zero, List.getElem?_cons_succ] at y1
      go_cut [56] (fun s56 wx => s56 = .bool ll ∧ wx = wc)
      case first =>
        have hs : (str m.target).size = m.target.length := str_size _
        by_cases hl : 100 < m.target.length
        · have hl2 : (100 : Int) < (m.target.length : Int) := by omega
          have El : ll = true := by rw [HLL.out]; simp [hl]
          go_wp2
          go_meet
          exact ⟨by rw [El], rfl⟩
        · have hl2 : ¬ (100 : Int) < (m.target.length : Int) := by omega
          have El : ll = !f1 := by rw [HLL.out]; simp [hl]
          go_wp2_with fail
          refine (rfits_any (str m.target) _ (by rw [str_size]; have := HTN.out.2; omega)).mono ?_
          rw [str_data, HF1.out]
          rintro e w3 ⟨rfl, rfl⟩
          go_wp2
          go_meet
          exact ⟨by rw [El], rfl⟩
      case rest =>
        obtain ⟨rfl, rfl⟩ := hcut
        go_upto_if 56 with fail
        go_cut [4] (fun s4 wx => s4 = .string (str S2) ∧ PM w #[.string (str m.path), .string (str m.target), .int .u8 (m.kind.toNat : Int), .int .i64 m.mode, .int .i64 (u : Int), .int .i64 (g : Int), .int .i64 (t : Int), .slice p bl c] wx h2)
        case first =>
          cases ll with
          | false =>
            have EH : h1 = h2 := by rw [← HE2.out, ← HE1.out]; rfl
            have ES : S2 = S1 := by rw [← HD2.out]; simp
            go_wp2
            go_meet
            exact ⟨by rw [ES], by rw [← EH]; exact HP4.out⟩
          | true =>
            go_wp2_with fail
            refine (line_any (keyT 5) m.target _ (by have := HTN.out.1; have := HTN.out.2; simp [keyT]; omega)).mono ?_
            rintro e w3 ⟨rfl, hb3⟩
            have HP3 := Lib.hid (HP4.out.below hb3)
            clear hb3
            have b9 := HP3.out.hd
            have z1 := b9.cell 1
            have fz1 := b9.frozen 1
            simp only [headC, List.getElem?_toArray, List.getElem?_cons_zero, List.getElem?_cons_succ] at z1
            clear b9
            have ES : S2 = S1 ++ lineD (keyT 5) m.target := by rw [← HD2.out]; rfl
            obtain ⟨A, hA⟩ : ∃ A : ByteArray, str (lineD (keyT 5) m.target) = A := ⟨_, rfl⟩
            obtain ⟨ka, hka⟩ : ∃ ka, A.size = ka := ⟨_, rfl⟩
            have hkl : (lineD (keyT 5) m.target).length = ka := by rw [← hka, ← hA, str_size]
            obtain ⟨Q, hQ⟩ : ∃ Q : ByteArray, str S1 = Q := ⟨_, rfl⟩
            obtain ⟨kq, hkq⟩ : ∃ kq, Q.size = kq := ⟨_, rfl⟩
            have hql : S1.length = kq := by rw [← hkq, ← hQ, str_size]
            have hsum : kq + ka ≤ 9223372036854775807 := by
              have h1 := congrArg List.length ES
              rw [List.length_append, hql, hkl] at h1
              have h2 := HSL.out
              have h3 := HS5L.out
              omega
            rw [hA, hQ]
            clear hkl hql
            have HES := Lib.hid ES
            have HA := Lib.hid hA
            have HQ := Lib.hid hQ
            clear ES hA hQ
            go_wp2
            go_meet
            exact ⟨by rw [HES.out, ← HA.out, ← HQ.out]; exact congrArg Value.string (str_app S1 _), HP3.out.set 1 _ (by
              have h9 := HP3.out.hd.set 1 (.string (str longN)) (by show 1 < 9; decide)
              rw [show h2 = { h1 with link := longN } from by rw [← HE2.out]; rfl]
              exact h9)⟩
        case rest =>
          obtain ⟨rfl, hP⟩ := hcut
          have HP5 := Lib.hid hP
          clear hP
          have y4 := HP5.out.mem.cell 4
          simp only [List.getElem?_toArray, List.getElem?_cons_zero, List.getElem?_cons_succ] at y4
          go_upto_if 67 with fail
          go_cut [4] (fun s4 wx => s4 = .string (str S3) ∧ PM w #[.string (str m.path), .string (str m.target), .int .u8 (m.kind.toNat : Int), .int .i64 m.mode, .int .i64 (u : Int), .int .i64 (g : Int), .int .i64 (t : Int), .slice p bl c] wx h3)
          case first =>
            by_cases hx : 2097151 < u
            · have hx2 : (2097151 : Int) < (u : Int) := by omega
              go_wp2_with fail
              refine (dec_any u _ HUN.out.1).mono ?_
              rintro e wq ⟨rfl, hbq⟩
              have HPQ := Lib.hid (HP5.out.below hbq)
              clear hbq
              go_wp2_with fail
              refine (line_any (keyT 0) (decL u) _ (by have := HTN.out.1; have := HTN.out.2; have := dec_le u 18 (by omega) HUN.out.1; simp [keyT]; omega)).mono ?_
              rintro e w3 ⟨rfl, hb3⟩
              have HP3 := Lib.hid (HPQ.out.below hb3)
              clear hb3
              have b9 := HP3.out.hd
              have z4 := b9.cell 4
              have fz4 := b9.frozen 4
              simp only [headC, List.getElem?_toArray, List.getElem?_cons_zero, List.getElem?_cons_succ] at z4
              clear b9
              have ES : S3 = S2 ++ lineD (keyT 0) (decL u) := by rw [← HD3.out]; simp [hx]
              obtain ⟨A, hA⟩ : ∃ A : ByteArray, str (lineD (keyT 0) (decL u)) = A := ⟨_, rfl⟩
              obtain ⟨ka, hka⟩ : ∃ ka, A.size = ka := ⟨_, rfl⟩
              have hkl : (lineD (keyT 0) (decL u)).length = ka := by rw [← hka, ← hA, str_size]
              obtain ⟨Q, hQ⟩ : ∃ Q : ByteArray, str S2 = Q := ⟨_, rfl⟩
              obtain ⟨kq, hkq⟩ : ∃ kq, Q.size = kq := ⟨_, rfl⟩
              have hql : S2.length = kq := by rw [← hkq, ← hQ, str_size]
              have hsum : kq + ka ≤ 9223372036854775807 := by
                have h1 := congrArg List.length ES
                rw [List.length_append, hql, hkl] at h1
                have h2 := HSL.out
                have h3 := HS5L.out
                omega
              rw [hA, hQ]
              clear hkl hql
              have HES := Lib.hid ES
              have HA := Lib.hid hA
              have HQ := Lib.hid hQ
              clear ES hA hQ
              go_wp2
              go_meet
              exact ⟨by rw [HES.out, ← HA.out, ← HQ.out]; exact congrArg Value.string (str_app S2 _), HP3.out.set 4 _ (by
                have h9 := HP3.out.hd.set 4 (.int .i64 0) (by show 4 < 9; decide)
                rw [show h3 = { h2 with uid := 0 } from by rw [← HE3.out]; simp [hx]]
                exact h9)⟩
            · have hx2 : ¬ (2097151 : Int) < (u : Int) := by omega
              have EH : h3 = h2 := by
                rw [← HE3.out, if_neg hx, ← HE2.out, ← HE1.out]
              have ES : S3 = S2 := by rw [← HD3.out]; simp [hx]
              go_wp2
              go_meet
              exact ⟨by rw [ES], by rw [EH]; exact HP5.out⟩
          case rest =>
            obtain ⟨rfl, hP⟩ := hcut
            have HP6 := Lib.hid hP
            clear hP
            have y5 := HP6.out.mem.cell 5
            simp only [List.getElem?_toArray, List.getElem?_cons_zero, List.getElem?_cons_succ] at y5
            go_upto_if 81 with fail
            go_cut [4] (fun s4 wx => s4 = .string (str S4) ∧ PM w #[.string (str m.path), .string (str m.target), .int .u8 (m.kind.toNat : Int), .int .i64 m.mode, .int .i64 (u : Int), .int .i64 (g : Int), .int .i64 (t : Int), .slice p bl c] wx h4)
            case first =>
              by_cases hx : 2097151 < g
              · have hx2 : (2097151 : Int) < (g : Int) := by omega
                go_wp2_with fail
                refine (dec_any g _ HUN.out.2.1).mono ?_
                rintro e wq ⟨rfl, hbq⟩
                have HPQ := Lib.hid (HP6.out.below hbq)
                clear hbq
                go_wp2_with fail
                refine (line_any (keyT 1) (decL g) _ (by have := HTN.out.1; have := HTN.out.2; have := dec_le g 18 (by omega) HUN.out.2.1; simp [keyT]; omega)).mono ?_
                rintro e w3 ⟨rfl, hb3⟩
                have HP3 := Lib.hid (HPQ.out.below hb3)
                clear hb3
                have b9 := HP3.out.hd
                have z5 := b9.cell 5
                have fz5 := b9.frozen 5
                simp only [headC, List.getElem?_toArray, List.getElem?_cons_zero, List.getElem?_cons_succ] at z5
                clear b9
                have ES : S4 = S3 ++ lineD (keyT 1) (decL g) := by rw [← HD4.out]; simp [hx]
                obtain ⟨A, hA⟩ : ∃ A : ByteArray, str (lineD (keyT 1) (decL g)) = A := ⟨_, rfl⟩
                obtain ⟨ka, hka⟩ : ∃ ka, A.size = ka := ⟨_, rfl⟩
                have hkl : (lineD (keyT 1) (decL g)).length = ka := by rw [← hka, ← hA, str_size]
                obtain ⟨Q, hQ⟩ : ∃ Q : ByteArray, str S3 = Q := ⟨_, rfl⟩
                obtain ⟨kq, hkq⟩ : ∃ kq, Q.size = kq := ⟨_, rfl⟩
                have hql : S3.length = kq := by rw [← hkq, ← hQ, str_size]
                have hsum : kq + ka ≤ 9223372036854775807 := by
                  have h1 := congrArg List.length ES
                  rw [List.length_append, hql, hkl] at h1
                  have h2 := HSL.out
                  have h3 := HS5L.out
                  omega
                rw [hA, hQ]
                clear hkl hql
                have HES := Lib.hid ES
                have HA := Lib.hid hA
                have HQ := Lib.hid hQ
                clear ES hA hQ
                go_wp2
                go_meet
                exact ⟨by rw [HES.out, ← HA.out, ← HQ.out]; exact congrArg Value.string (str_app S3 _), HP3.out.set 5 _ (by
                  have h9 := HP3.out.hd.set 5 (.int .i64 0) (by show 5 < 9; decide)
                  rw [show h4 = { h3 with gid := 0 } from by rw [← HE4.out]; simp [hx]]
                  exact h9)⟩
              · have hx2 : ¬ (2097151 : Int) < (g : Int) := by omega
                have EH : h4 = h3 := by
                  rw [← HE4.out, if_neg hx, ← HE3.out, ← HE2.out, ← HE1.out]
                have ES : S4 = S3 := by rw [← HD4.out]; simp [hx]
                go_wp2
                go_meet
                exact ⟨by rw [ES], by rw [EH]; exact HP6.out⟩
            case rest =>
              obtain ⟨rfl, hP⟩ := hcut
              have HP7 := Lib.hid hP
              clear hP
              have y6 := HP7.out.mem.cell 6
              simp only [List.getElem?_toArray, List.getElem?_cons_zero, List.getElem?_cons_succ] at y6
              go_upto_if 95 with fail
              go_cut [4] (fun s4 wx => s4 = .string (str S5) ∧ PM w #[.string (str m.path), .string (str m.target), .int .u8 (m.kind.toNat : Int), .int .i64 m.mode, .int .i64 (u : Int), .int .i64 (g : Int), .int .i64 (t : Int), .slice p bl c] wx h5)
              case first =>
                by_cases hx : 8589934591 < t
                · have hx2 : (8589934591 : Int) < (t : Int) := by omega
                  go_wp2_with fail
                  refine (dec_any t _ HUN.out.2.2).mono ?_
                  rintro e wq ⟨rfl, hbq⟩
                  have HPQ := Lib.hid (HP7.out.below hbq)
                  clear hbq
                  go_wp2_with fail
                  refine (line_any (keyT 2) (decL t) _ (by have := HTN.out.1; have := HTN.out.2; have := dec_le t 18 (by omega) HUN.out.2.2; simp [keyT]; omega)).mono ?_
                  rintro e w3 ⟨rfl, hb3⟩
                  have HP3 := Lib.hid (HPQ.out.below hb3)
                  clear hb3
                  have b9 := HP3.out.hd
                  have z6 := b9.cell 6
                  have fz6 := b9.frozen 6
                  simp only [headC, List.getElem?_toArray, List.getElem?_cons_zero, List.getElem?_cons_succ] at z6
                  clear b9
                  have ES : S5 = S4 ++ lineD (keyT 2) (decL t) := by rw [← HD5.out]; simp [hx]
                  obtain ⟨A, hA⟩ : ∃ A : ByteArray, str (lineD (keyT 2) (decL t)) = A := ⟨_, rfl⟩
                  obtain ⟨ka, hka⟩ : ∃ ka, A.size = ka := ⟨_, rfl⟩
                  have hkl : (lineD (keyT 2) (decL t)).length = ka := by rw [← hka, ← hA, str_size]
                  obtain ⟨Q, hQ⟩ : ∃ Q : ByteArray, str S4 = Q := ⟨_, rfl⟩
                  obtain ⟨kq, hkq⟩ : ∃ kq, Q.size = kq := ⟨_, rfl⟩
                  have hql : S4.length = kq := by rw [← hkq, ← hQ, str_size]
                  have hsum : kq + ka ≤ 9223372036854775807 := by
                    have h1 := congrArg List.length ES
                    rw [List.length_append, hql, hkl] at h1
                    have h2 := HSL.out
                    have h3 := HS5L.out
                    omega
                  rw [hA, hQ]
                  clear hkl hql
                  have HES := Lib.hid ES
                  have HA := Lib.hid hA
                  have HQ := Lib.hid hQ
                  clear ES hA hQ
                  go_wp2
                  go_meet
                  exact ⟨by rw [HES.out, ← HA.out, ← HQ.out]; exact congrArg Value.string (str_app S4 _), HP3.out.set 6 _ (by
                    have h9 := HP3.out.hd.set 6 (.int .i64 0) (by show 6 < 9; decide)
                    rw [show h5 = { h4 with time := 0 } from by rw [← HE5.out]; simp [hx]]
                    exact h9)⟩
                · have hx2 : ¬ (8589934591 : Int) < (t : Int) := by omega
                  have EH : h5 = h4 := by
                    rw [← HE5.out, if_neg hx, ← HE4.out, ← HE3.out, ← HE2.out, ← HE1.out]
                  have ES : S5 = S4 := by rw [← HD5.out]; simp [hx]
                  go_wp2
                  go_meet
                  exact ⟨by rw [ES], by rw [EH]; exact HP7.out⟩
              case rest =>
                obtain ⟨rfl, hP⟩ := hcut
                have HP8 := Lib.hid hP
                clear hP
                have hn5 : (str S5).size = S5.length := str_size S5
                have he5 : (str S5).toList.isEmpty = decide (S5 = []) := str_empty S5
                obtain ⟨eb, heb⟩ : ∃ b, decide (S5 = []) = b := ⟨_, rfl⟩
                obtain ⟨n5, hnn⟩ : ∃ k, S5.length = k := ⟨_, rfl⟩
                rw [heb] at he5
                rw [hnn] at hn5
                obtain ⟨X, hX⟩ : ∃ X, (if S5 = [] then [] else (putR (paxH S5.length)).getD [] ++ padB S5) = X := ⟨_, rfl⟩
                have HX := Lib.hid hX
                have HEB := Lib.hid heb
                have HN5 := Lib.hid hnn
                have hn5l : n5 ≤ 1048576 := by rw [← hnn]; exact HS5L.out
                clear hX heb hnn
                obtain ⟨Z5, hZ5⟩ : ∃ Z, str S5 = Z := ⟨_, rfl⟩
                have HZ5 := Lib.hid hZ5
                rw [hZ5] at hn5 he5 ⊢
                clear hZ5
                go_upto_if 107 with fail
                go_cut [8] (fun s8 wx => OwnB wx (w.heap.size + 2) s8 X.length X ∧ PM w #[.string (str m.path), .string (str m.target), .int .u8 (m.kind.toNat : Int), .int .i64 m.mode, .int .i64 (u : Int), .int .i64 (g : Int), .int .i64 (t : Int), .slice p bl c] wx h5)
                case first =>
                  cases eb with
                  | true =>
                    have hs : S5 = [] := of_decide_eq_true HEB.out
                    have hx : X = [] := by rw [← HX.out, if_pos hs]
                    go_wp2
                    go_meet
                    exact ⟨by rw [hx]; exact World.ownsRow_nil _ _ _ _, HP8.out⟩
                  | false =>
                    have hs : ¬ S5 = [] := of_decide_eq_false HEB.out
                    obtain ⟨Hx, hx1, hx2, hx3⟩ := paxH_put (n := n5) hn5l
                    have hx : X = Hx ++ padB S5 := by rw [← HX.out, if_neg hs, HN5.out, hx1]; rfl
                    have HHX := Lib.hid (And.intro hx1 (And.intro hx2 hx))
                    clear hs hx1 hx2 hx3 hx
                    go_wp2_with fail
                    refine (show Calls _ _ #[.agg #[.string ⟨#[64, 112, 97, 120]⟩, .string ⟨#[]⟩, .int .u8 120, .int .i64 0, .int .i64 0, .int .i64 0, .int .i64 0, .int .i64 (n5 : Int), .bool false]] _ (PutHPost _ (putR (paxH n5))) from rputH_any (paxH n5) (paxH_wf hn5l) (by show (4 : Nat) ≤ _; decide) (by show (0 : Nat) ≤ _; decide) _).mono ?_
                    rintro e w3 ⟨hk3, (⟨bs, gx, hr, rfl, hrow, hge⟩ | ⟨hr, rfl⟩)⟩
                    · obtain rfl : bs = Hx := by rw [HHX.out.1] at hr; exact (Option.some.inj hr).symm
                      have HP9 := Lib.hid (HP8.out.kept hk3)
                      have hB2 : w.heap.size + 2 ≤ wc.heap.size := by have := HP8.out.hd.lt; omega
                      have HO9 : Hid (OwnB w3 (w.heap.size + 2) (.slice (some ⟨gx, 0, none⟩) 512 512) 512 bs) := Lib.hid (by
                        have := ownB_row hrow (Nat.le_trans hB2 hge) (by rw [HHX.out.2.1]; decide)
                        rw [HHX.out.2.1] at this
                        exact this)
                      have HB2 := Lib.hid hB2
                      clear hk3 hrow hge hr hB2
                      have hm2 : Z5.size ≤ maxLen := by rw [hn5]; unfold maxLen; omega
                      obtain ⟨hc1, hc2⟩ := str_cap w3 5 Z5 hm2
                      have cvb := Lib.run_convert_string_bytes (P := Tryz.prog) w3 9 22 5 Z5 Tryz.underlying9 Tryz.underlying22 Tryz.underlying5
                      have hbt := str_bat w3 5 Z5
                      have hsb := str_below w3 5 Z5
                      obtain ⟨w4, hw4⟩ : ∃ w4, bytesWorld w3 5 Z5 = w4 := ⟨_, rfl⟩
                      rw [hw4] at cvb hbt hsb
                      rw [hn5] at cvb hbt
                      have HBT := Lib.hid hbt
                      have HSB := Lib.hid hsb
                      have HP10 := Lib.hid (HP9.out.below hsb)
                      have HO10 := Lib.hid (HO9.out.kept (Kept.of_below hsb noneB) (fun _ _ => id))
                      clear hbt hsb hw4 hc1 hc2 hm2
                      go_wp2_with fail
                      refine (rpadded_any _ n5 _ S5 w4 HN5.out (by omega) (by have := HBT.out; rw [← HZ5.out, str_data] at this; exact this)).mono ?_
                      rintro e w5 ⟨v5, rfl, ho5, hk5⟩
                      obtain ⟨p5, c5, rfl, _, _, hb5, _, _⟩ := ho5.slice
                      have HP11 := Lib.hid (HP10.out.kept hk5)
                      have HO11 := Lib.hid (HO10.out.kept hk5 (fun _ _ => id))
                      have HB5 := Lib.hid hb5
                      have hpl5 : (padB S5).length ≤ 2000000 := by rw [padB_length, HN5.out]; have := (blocks_ge n5).2; omega
                      have HPL := Lib.hid hpl5
                      have hle5 : w.heap.size + 2 ≤ w5.heap.size := by have := HP11.out.hd.lt; omega
                      have HLE := Lib.hid hle5
                      obtain ⟨i0, hi, hz0, hz1, hz2⟩ := info_parts infoU8
                      have HI := Lib.hid hi
                      have HZ0 := Lib.hid hz0
                      have HZ1 := Lib.hid hz1
                      have HZ2 := Lib.hid hz2
                      clear ho5 hk5 hb5 cvb hpl5 hle5 hi hz0 hz1 hz2
                      go_wp2_with (at_builtin; refine append_bytes rfl _ _ 22 rfl (w.heap.size + 2) 5 i0 Tryz.underlying22 HI.out HZ0.out HZ1.out HZ2.out _ 512 (nums bs) rfl HO11.out p5 (padB S5).length c5 (padB S5) rfl HB5.out rfl ?d2 HLE.out ?_)
                      case d2 => have := HPL.out; omega
                      intro v6 w6 hown6 hgrow6
                      have hk6 : Kept (fun k => Value.ownBlock (.slice (some ⟨gx, 0, none⟩) 512 512) = some k) w5 w6 := (Kept.refl _ w5).grown hgrow6 (fun k hk => .inr hk)
                      have hgx := (HO11.out.lt gx rfl).1
                      have F : Hid (OwnB w6 (w.heap.size + 2) v6 X.length X ∧ PM w #[.string (str m.path), .string (str m.target), .int .u8 (m.kind.toNat : Int), .int .i64 m.mode, .int .i64 (u : Int), .int .i64 (g : Int), .int .i64 (t : Int), .slice p bl c] w6 h5) := Lib.hid ⟨by
                        rw [HHX.out.2.2]
                        unfold OwnB
                        rw [List.length_append, HHX.out.2.1]
                        have e : (nums (bs ++ padB S5)).map (Value.int .u8) = (nums bs ++ nums (padB S5)).map (Value.int .u8) := by unfold nums; rw [List.map_append]
                        rw [e]
                        first | exact hown6 | (rw [List.map_append]; exact hown6), ⟨HP11.out.bel.trans (hk6.below HP11.out.bel.size (fun k hk => by have h1 := Option.some.inj hk; have h1 : gx = k := h1; omega)), HP11.out.mem.keptS hk6 (fun e => by have h1 := Option.some.inj e; have h1 : gx = w.heap.size := h1; omega), HP11.out.hd.keptS hk6 (fun e => by have h1 := Option.some.inj e; have h1 : gx = w.heap.size + 1 := h1; omega)⟩⟩
                      clear hown6 hgrow6 hk6 hgx
                      go_wp2
                      go_meet
                      exact F.out
                    · rw [HHX.out.1] at hr
                      cases hr
                case rest =>
                  obtain ⟨hO, hP⟩ := hcut
                  have HO9 := Lib.hid hO
                  have HP9 := Lib.hid hP
                  obtain ⟨H, hh1, hh2, hh3⟩ := headM_put HG.out
                  rw [HH5.out] at hh1
                  have HHH := Lib.hid (And.intro hh1 hh2)
                  have hwf := headM_wf HG.out
                  have htx := headM_tx HG.out
                  rw [HH5.out] at hwf htx
                  have HWF := Lib.hid (And.intro hwf htx)
                  clear hO hP hh1 hh2 hh3 hwf htx hn5 he5
                  have b9 := HP9.out.hd
                  have d0 := b9.cell 0
                  have d1 := b9.cell 1
                  have d2 := b9.cell 2
                  have d3 := b9.cell 3
                  have d4 := b9.cell 4
                  have d5 := b9.cell 5
                  have d6 := b9.cell 6
                  have d7 := b9.cell 7
                  have d8 := b9.cell 8
                  simp only [headC, List.getElem?_toArray, List.getElem?_cons_zero, List.getElem?_cons_succ] at d0 d1 d2 d3 d4 d5 d6 d7 d8
                  clear b9
                  go_wp2_with fail
                  refine (rputH_any h5 HWF.out.1 HWF.out.2.1 HWF.out.2.2 _).mono ?_
                  rintro e w3 ⟨hk3, (⟨bs, gy, hr, rfl, hrow, hge⟩ | ⟨hr, rfl⟩)⟩
                  · obtain rfl : bs = H := by rw [HHH.out.1] at hr; exact (Option.some.inj hr).symm
                    have HP10 := Lib.hid (HP9.out.kept hk3)
                    have HO10 := Lib.hid (HO9.out.kept hk3 (fun _ _ => id))
                    have HRW := Lib.hid hrow
                    have HSEP : Hid (∀ k, u8.ownBlock = some k → k ≠ gy) := Lib.hid (fun k hk => by have := (HO9.out.lt k hk).2; omega)
                    clear hk3 hrow hge hr d0 d1 d2 d3 d4 d5 d6 d7 d8
                    go_upto_region 24 with fail
                    refine wp_region_any (by kernel_rfl) (wpAny_ops (ops' := put24Ops) (by kernel_rfl) ?_)
                    refine put24_region (w := w) (w1 := w3) (w.heap.size + 2) w.heap.size gy #[.string (str m.path), .string (str m.target), .int .u8 (m.kind.toNat : Int), .int .i64 m.mode, .int .i64 (u : Int), .int .i64 (g : Int), .int .i64 (t : Int), .slice p bl c] u8 X bs m.body p bl c ?a1 ?a2 ?a3 ?a4 ?a5 ?a6 ?a7 ?a8 ?a9 ?a10 ?a11 ?a12 ?a13 ?a14 ?a15 ?a16 ?a17 ?a18 ?a19 ?a20
                    case a1 => exact Nat.le_refl 132
                    case a2 => rfl
                    case a3 => rfl
                    case a4 => rfl
                    case a5 => exact HP10.out.bel
                    case a6 => exact HP10.out.mem
                    case a7 => rfl
                    case a8 => exact Nat.le_refl _
                    case a9 => exact HO10.out
                    case a10 => exact Nat.lt_add_of_pos_right (by decide)
                    case a11 => exact HP10.out.hd.lt
                    case a12 => exact Nat.le_add_right _ _
                    case a13 => have := HRW.out.bat; rw [HHH.out.2] at this; exact this
                    case a14 => exact HHH.out.2
                    case a15 => exact HSEP.out
                    case a16 => exact HB.out
                    case a17 => exact HBL.out
                    case a18 => exact HBM.out
                    case a19 =>
                      rw [← HX.out]
                      split
                      · exact Nat.zero_le _
                      · obtain ⟨Hx, hx1, hx2, _⟩ := paxH_put (n := S5.length) HS5L.out
                        rw [hx1, Option.getD_some, List.length_append, hx2, padB_length]
                        have h1 := (blocks_ge S5.length).2
                        have h2 := HS5L.out
                        clear hn5l
                        omega
                    intro γ w9 ho9 hb9
                    have F : Hid (PadPost w (putM m) (.returned γ.v2) w9) := Lib.hid (by
                      have e : putM m = (X ++ bs) ++ padB m.body := by
                        unfold putM
                        rw [HS5.out, HH5.out, HHH.out.1, ← HX.out]
                        simp only [Option.getD_some, List.append_assoc]
                      rw [e]
                      exact ⟨γ.v2, rfl, ho9.mono (Nat.le_add_right _ _), Kept.of_below hb9 noneB⟩)
                    clear ho9 hb9
                    simp only [Exit.then]
                    apply_assumption
                    simp only [Act.put, List.setIfInBounds_toArray, List.set_cons_zero, List.set_cons_succ]
                    go_wp2
                    go_ret
                    exact F.out
                  · rw [HHH.out.1] at hr
                    cases hr
end Go.Proofs.YtdjedimjhogdoaaGreatDoor.Mem
end
section
namespace Go.Proofs.YtdjedimjhogdoaaGreatDoor.Mem
open Go.ChangeShapes Go.WideShapes Go.ChangeAt Go.RowKit Go.Proofs.YtdjedimjhogdoaaGreatDoor.Base Go.Proofs.YtdjedimjhogdoaaGreatDoor.Byt Go.Proofs.YtdjedimjhogdoaaGreatDoor.Txt Go.Proofs.YtdjedimjhogdoaaGreatDoor.Bk Go.Proofs.YtdjedimjhogdoaaGreatDoor.Hp Go.Proofs.YtdjedimjhogdoaaGreatDoor.Head Go.Proofs.YtdjedimjhogdoaaGreatDoor.Num Go.Proofs.YtdjedimjhogdoaaGreatDoor.Path Go.Proofs.YtdjedimjhogdoaaGreatDoor.Block Go.Proofs.YtdjedimjhogdoaaGreatDoor.Rec Go.Lib
set_option linter.unusedVariables false
set_option maxRecDepth 100000

theorem putM_len {m : MemV} (h : GoodM m) : (putM m).length ≤ 3000000 := by
  have hb := (blocks_ge m.body.length).2
  have hl := (blocks_ge (linesD (recsM m)).length).2
  have hq := linesM_le h
  have hq2 := h.body
  obtain ⟨H, _, h2, _, (⟨_, e⟩ | ⟨X, _, x2, _, e⟩)⟩ := put_laid h
  · rw [e, List.length_append, padB_length, h2]; omega
  · rw [e, List.length_append, List.length_append, List.length_append, padB_length, padB_length, h2, x2]; omega
theorem putAllM_len : ∀ (ms : List MemV), (∀ m ∈ ms, GoodM m) → (putAllM ms).length ≤ ms.length * 3000000
  | [], _ => Nat.zero_le _
  | m :: ms, h => by
    rw [putAllM_cons, List.length_append, List.length_cons]
    have h1 := putM_len (h m (List.mem_cons_self ..))
    have h2 := putAllM_len ms (fun x hx => h x (List.mem_cons_of_mem _ hx))
    omega
theorem takeP_succ (xs : List MP) (k : Nat) (h : k < xs.length) : (xs.take (k + 1)).map MP.m = (xs.take k).map MP.m ++ [(xs.getD k zeroP).m] := by
  rw [List.take_succ_eq_append_getElem h, List.map_append, List.getD, List.getElem?_eq_getElem h]
  rfl
theorem getP_mem (xs : List MP) (k : Nat) (h : k < xs.length) : xs.getD k zeroP ∈ xs := by
  rw [List.getD, List.getElem?_eq_getElem h]
  exact List.getElem_mem h
set_option maxHeartbeats 4000000 in
theorem rarch_any (w : World) (p : Option Addr) (n c : Nat) (xs : List MP) (h : MemsAt w p n xs) (hg : ∀ x ∈ xs, GoodM x.m) (hn : n ≤ 100) :
    Calls Tryz.prog 21 #[.slice p n c] w (PadPost w (archD (xs.map MP.m))) := by
  obtain ⟨i0, hi, hz0, hz1, hz2⟩ := info_parts infoU8
  have HI := Lib.hid hi
  have HZ0 := Lib.hid hz0
  have HZ1 := Lib.hid hz1
  have HZ2 := Lib.hid hz2
  have HM := Lib.hid h
  have HL := Lib.hid h.1
  have HG := Lib.hid hg
  clear hi hz0 hz1 hz2 h hg
  go_enter Tryz.func21, Tryz.ntmps21
  go_wp2_with fail
  go_loopw [3, 4] (fun o i wr => ∃ (j : Nat), j ≤ n ∧ i = .int .i64 (j : Int) ∧ Hid (OwnB wr w.heap.size o (putAllM ((xs.take j).map MP.m)).length (putAllM ((xs.take j).map MP.m))) ∧ Hid (Below w.heap.size w wr)) (fun _ i _ => n - (RowKit.intOf i).toNat)
  case atStart => exact ⟨0, Nat.zero_le _, rfl, Lib.hid (World.ownsRow_nil _ _ _ _), Lib.hid (Below.refl _ _)⟩
  case round =>
    obtain ⟨j, hj, rfl, hO, hB⟩ := hrel
    have hlen : (putAllM ((xs.take j).map MP.m)).length ≤ 300000000 := by
      have := putAllM_len ((xs.take j).map MP.m) (fun m hm => by
        obtain ⟨x, hx, rfl⟩ := List.mem_map.1 hm
        exact HG.out x (List.mem_of_mem_take hx))
      rw [List.length_map, List.length_take] at this
      omega
    have HLEN := Lib.hid hlen
    clear hlen
    by_cases hlt : j < n
    · have hT := takeP_succ xs j (by rw [HL.out]; exact hlt)
      have hGy := HG.out _ (getP_mem xs j (by rw [HL.out]; exact hlt))
      obtain ⟨b, o, rfl, hb, hBd, c0, c1, c2, c3, c4, c5, c6, c7⟩ := (HM.out.below hB.out).cells hlt
      obtain ⟨y, hy⟩ : ∃ y, xs.getD j zeroP = y := ⟨_, rfl⟩
      rw [hy] at hT hGy hBd c0 c1 c2 c3 c4 c5 c6 c7
      rw [Nat.mul_comm] at c0 c1 c2 c3 c4 c5 c6 c7
      have HT := Lib.hid hT
      have HGy := Lib.hid hGy
      have HBd := Lib.hid hBd
      have hltz : (j : Int) < (n : Int) := by omega
      clear hT hGy hBd hb hy
      obtain ⟨A, hA⟩ : ∃ A, putAllM ((xs.take j).map MP.m) = A := ⟨_, rfl⟩
      rw [hA] at hO HLEN
      have HA := Lib.hid hA
      clear hA
      go_wp2_with fail
      refine (rput_any y.m y.p y.c _ HGy.out HBd.out.bat).mono ?_
      rintro e w2 ⟨v2, rfl, ho2, hk2⟩
      obtain ⟨p2, q2, rfl, _, _, hb2, _, _⟩ := ho2.slice
      have HB2 := Lib.hid hb2
      have HO2 := Lib.hid (hO.out.kept hk2 (fun _ _ => id))
      have HK2 := Lib.hid (hB.out.trans (hk2.below hB.out.size (fun _ h => h.elim)))
      have HPL := Lib.hid (putM_len HGy.out)
      clear hb2 ho2 hk2 c0 c1 c2 c3 c4 c5 c6 c7
      go_wp2_with (at_builtin; refine append_bytes rfl _ _ 22 rfl w.heap.size 5 i0 Tryz.underlying22 HI.out HZ0.out HZ1.out HZ2.out _ _ _ rfl HO2.out p2 (putM y.m).length q2 (putM y.m) rfl HB2.out rfl ?d2 ?d3 ?_)
      case d2 => have := HPL.out; have := HLEN.out; omega
      case d3 => exact HK2.out.size
      intro v3 w3 hown hgrow
      have F : Hid (OwnB w3 w.heap.size v3 (putAllM ((xs.take (j + 1)).map MP.m)).length (putAllM ((xs.take (j + 1)).map MP.m)) ∧ Below w.heap.size w w3) := Lib.hid ⟨by
        have e : putAllM ((xs.take (j + 1)).map MP.m) = A ++ putM y.m := by
          rw [HT.out, putAllM_app, putAllM_cons, HA.out]
          simp [putAllM]
        rw [e, List.length_append]
        unfold OwnB
        rw [show nums (A ++ putM y.m) = nums A ++ nums (putM y.m) by unfold nums; rw [List.map_append]]
        first | exact hown | (rw [List.map_append]; exact hown), HK2.out.trans (((Kept.refl _ w2).grown hgrow (fun k hk => .inr hk)).below HK2.out.size (fun k hk => (HO2.out.lt k hk).1))⟩
      clear hown hgrow
      go_wp2
      go_roundw
      case rel => exact ⟨j + 1, by omega, by go_num, Lib.hid F.out.1, Lib.hid F.out.2⟩
      case measure => simp [RowKit.intOf]; omega
    · obtain rfl : j = n := by omega
      have hks : ¬ ((j : Int) < (j : Int)) := by omega
      have e : xs.take j = xs := List.take_of_length_le (by rw [HL.out]; exact Nat.le_refl _)
      rw [e] at hO HLEN
      clear e
      go_wp2_with (at_builtin; refine append_zeros_new rfl _ _ 22 3 rfl w.heap.size 5 i0 .i64 .i64 Tryz.underlying22 Tryz.underlying3 HI.out HZ0.out HZ1.out HZ2.out _ (putAllM (xs.map MP.m)).length (nums (putAllM (xs.map MP.m))) rfl hO.out _ 1024 rfl ?e1 ?e2 hB.out.size ?_)
      case e2 => have := HLEN.out; omega
      intro v3 w3 hown hgrow _
      have F : Hid (PadPost w (archD (xs.map MP.m)) (.returned v3) w3) := Lib.hid (by
        refine ⟨v3, rfl, ?_, Kept.of_below (hB.out.trans (((Kept.refl _ _).grown hgrow (fun k hk => .inr hk)).below hB.out.size (fun k hk => (hO.out.lt k hk).1))) noneB⟩
        rw [archD_eq, List.length_append, List.length_replicate]
        unfold OwnB
        rw [show nums (putAllM (xs.map MP.m) ++ List.replicate 1024 0) = nums (putAllM (xs.map MP.m)) ++ zs8 1024 by unfold nums; rw [List.map_append]; simp [zs8]]
        first | exact hown | (rw [List.map_append]; exact hown))
      clear hown hgrow
      go_wp2
      go_ret
      exact F.out
end Go.Proofs.YtdjedimjhogdoaaGreatDoor.Mem
end
section
namespace Go.Proofs.YtdjedimjhogdoaaGreatDoor.Mem
open Go.ChangeShapes Go.WideShapes Go.ChangeAt Go.RowKit Go.Proofs.YtdjedimjhogdoaaGreatDoor.Base Go.Proofs.YtdjedimjhogdoaaGreatDoor.Byt Go.Proofs.YtdjedimjhogdoaaGreatDoor.Txt Go.Proofs.YtdjedimjhogdoaaGreatDoor.Bk Go.Proofs.YtdjedimjhogdoaaGreatDoor.Hp Go.Proofs.YtdjedimjhogdoaaGreatDoor.Head Go.Proofs.YtdjedimjhogdoaaGreatDoor.Num Go.Proofs.YtdjedimjhogdoaaGreatDoor.Path Go.Proofs.YtdjedimjhogdoaaGreatDoor.Block Go.Proofs.YtdjedimjhogdoaaGreatDoor.Rec Go.Lib
set_option linter.unusedVariables false
set_option maxRecDepth 100000

/-- the cells of a member in a row -/
def Cells8 (w : World) (b o : Nat) (y : MP) : Prop :=
  w.cell? ⟨b, o, none⟩ = some (.string (str y.m.path)) ∧ w.cell? ⟨b, o + 1, none⟩ = some (.string (str y.m.target)) ∧ w.cell? ⟨b, o + 2, none⟩ = some (.int .u8 (y.m.kind.toNat : Int)) ∧ w.cell? ⟨b, o + 3, none⟩ = some (.int .i64 y.m.mode) ∧
  w.cell? ⟨b, o + 4, none⟩ = some (.int .i64 y.m.uid) ∧ w.cell? ⟨b, o + 5, none⟩ = some (.int .i64 y.m.gid) ∧ w.cell? ⟨b, o + 6, none⟩ = some (.int .i64 y.m.time) ∧ w.cell? ⟨b, o + 7, none⟩ = some (.slice y.p y.m.body.length y.c)
theorem Cells8.below {w w' : World} {b o : Nat} {y : MP} (h : Cells8 w b o y) (hb : b < w.heap.size) (hw : Below w.heap.size w w') : Cells8 w' b o y := by
  unfold Cells8 at h ⊢
  simp only [hw.cell (p := ⟨b, _, none⟩) hb]
  exact h
theorem MemsAt.cells8 {w : World} {p : Option Addr} {n : Nat} {xs : List MP} (h : MemsAt w p n xs) {i : Nat} (hi : i < n) : ∃ b o, p = some ⟨b, o, none⟩ ∧ b < w.heap.size ∧ BodyAt w (xs.getD i zeroP) ∧ Cells8 w b (o + i * 8) (xs.getD i zeroP) := by
  obtain ⟨b, o, hp, hb, hB, c0, c1, c2, c3, c4, c5, c6, c7⟩ := h.cells hi
  rw [Nat.mul_comm] at c0 c1 c2 c3 c4 c5 c6 c7
  exact ⟨b, o, hp, hb, hB, c0, c1, c2, c3, c4, c5, c6, c7⟩
set_option maxHeartbeats 4000000 in
theorem rsameAll_any (p q : Option Addr) (n m c d : Nat) (xs ys : List MP) (w : World) (hn : n ≤ maxLen) (h1 : MemsAt w p n xs) (h2 : MemsAt w q m ys) :
    Calls Tryz.prog 14 #[.slice p n c, .slice q m d] w fun e w' => e = .returned (.bool (decide (xs.map MP.m = ys.map MP.m))) ∧ Below w.heap.size w w' := by
  unfold maxLen at hn
  have H1 := Lib.hid h1
  have H2 := Lib.hid h2
  have HL1 := Lib.hid h1.1
  have HL2 := Lib.hid h2.1
  clear h1 h2
  go_enter Tryz.func14, Tryz.ntmps14
  by_cases hnm : n = m
  · subst hnm
    have hb : (((n : Int)) != (n : Int)) = false := by simp
    go_wp2_with fail
    go_loopw [5] (fun i wr => ∃ (k : Nat), k ≤ n ∧ i = .int .i64 (k : Int) ∧ Hid (∀ j, j < k → (xs.getD j zeroP).m = (ys.getD j zeroP).m) ∧ Hid (Below w.heap.size w wr)) (fun i _ => n - (RowKit.intOf i).toNat)
    case atStart => exact ⟨0, Nat.zero_le _, rfl, Lib.hid (fun j hj => absurd hj (by omega)), Lib.hid (Below.refl _ _)⟩
    case round =>
      obtain ⟨k, hk, rfl, hd, hB⟩ := hrel
      by_cases hlt : k < n
      · obtain ⟨b1, o1, rfl, hb1, hB1, hc1⟩ := (H1.out.below hB.out).cells8 hlt
        obtain ⟨b2, o2, rfl, hb2, hB2, hc2⟩ := (H2.out.below hB.out).cells8 hlt
        obtain ⟨u, hu⟩ : ∃ u, xs.getD k zeroP = u := ⟨_, rfl⟩
        obtain ⟨v, hv⟩ : ∃ v, ys.getD k zeroP = v := ⟨_, rfl⟩
        rw [hu] at hB1 hc1
        rw [hv] at hB2 hc2
        have HU := Lib.hid hu
        have HV := Lib.hid hv
        have HA := Lib.hid hB1
        have HB := Lib.hid hB2
        have HCC : Hid (∀ w', Below wr.heap.size wr w' → Cells8 w' b1 (o1 + k * 8) u ∧ Cells8 w' b2 (o2 + k * 8) v) := Lib.hid (fun w' h => ⟨hc1.below hb1 h, hc2.below hb2 h⟩)
        have HBB : Hid (Below wr.heap.size wr wr.drew) := Lib.hid (below_drewN (Below.refl wr.heap.size wr) 1)
        unfold Cells8 at HCC
        clear hB1 hB2 hc1 hc2 hu hv hb1 hb2
        have hltz : (k : Int) < (n : Int) := by omega
        go_wp2_with fail
        go_region_held3 (fun w' => (w'.cell? ⟨b1, o1 + k * 8, none⟩ = some (.string (str u.m.path)) ∧ w'.cell? ⟨b1, o1 + k * 8 + 1, none⟩ = some (.string (str u.m.target)) ∧ w'.cell? ⟨b1, o1 + k * 8 + 2, none⟩ = some (.int .u8 (u.m.kind.toNat : Int)) ∧ w'.cell? ⟨b1, o1 + k * 8 + 3, none⟩ = some (.int .i64 u.m.mode) ∧ w'.cell? ⟨b1, o1 + k * 8 + 4, none⟩ = some (.int .i64 u.m.uid) ∧ w'.cell? ⟨b1, o1 + k * 8 + 5, none⟩ = some (.int .i64 u.m.gid) ∧ w'.cell? ⟨b1, o1 + k * 8 + 6, none⟩ = some (.int .i64 u.m.time) ∧ w'.cell? ⟨b1, o1 + k * 8 + 7, none⟩ = some (.slice u.p u.m.body.length u.c)) ∧ (w'.cell? ⟨b2, o2 + k * 8, none⟩ = some (.string (str v.m.path)) ∧ w'.cell? ⟨b2, o2 + k * 8 + 1, none⟩ = some (.string (str v.m.target)) ∧ w'.cell? ⟨b2, o2 + k * 8 + 2, none⟩ = some (.int .u8 (v.m.kind.toNat : Int)) ∧ w'.cell? ⟨b2, o2 + k * 8 + 3, none⟩ = some (.int .i64 v.m.mode) ∧ w'.cell? ⟨b2, o2 + k * 8 + 4, none⟩ = some (.int .i64 v.m.uid) ∧ w'.cell? ⟨b2, o2 + k * 8 + 5, none⟩ = some (.int .i64 v.m.gid) ∧ w'.cell? ⟨b2, o2 + k * 8 + 6, none⟩ = some (.int .i64 v.m.time) ∧ w'.cell? ⟨b2, o2 + k * 8 + 7, none⟩ = some (.slice v.p v.m.body.length v.c))) (exact HCC.out _ HBB.out) (first
          | (go_at_call 18
             refine (rsame_any u.m v.m u.p v.p u.c v.c _ (HA.out.below HBB.out).bat (HB.out.below HBB.out).bat).mono ?_
             rintro e wa ⟨rfl, hba⟩
             have HBB := Lib.hid (HBB.out.trans (hba.mono HBB.out.size))
             clear hba))
        all_goals
          by_cases huv : u.m = v.m
          · have huv2 : decide (u.m = v.m) = true := decide_eq_true huv
            have HD : Hid (∀ j, j < k + 1 → (xs.getD j zeroP).m = (ys.getD j zeroP).m) := Lib.hid (fun j hj => by
              rcases Nat.lt_succ_iff_lt_or_eq.1 hj with h | rfl
              · exact hd.out j h
              · rw [HU.out, HV.out, huv])
            clear huv
            have HBD := Lib.hid (hB.out.trans (HBB.out.mono hB.out.size))
            rw [huv2]
            go_wp2
            go_roundw
            case rel => exact ⟨k + 1, by omega, by go_num, HD, HBD⟩
            case measure => simp [RowKit.intOf]; omega
          · have huv2 : decide (u.m = v.m) = false := decide_eq_false huv
            have HNE : Hid (decide (xs.map MP.m = ys.map MP.m) = false) := Lib.hid (decide_eq_false (mems_differ xs ys k (by rw [HL1.out]; exact hlt) (by rw [HL2.out]; exact hlt) (by rw [HU.out, HV.out]; exact huv)))
            clear huv
            have HBD := Lib.hid (hB.out.trans (HBB.out.mono hB.out.size))
            rw [huv2]
            go_wp2
            go_ret
            exact ⟨by rw [HNE.out]; rfl, HBD.out⟩
      · have hks : ¬ ((k : Int) < (n : Int)) := by omega
        have HE : Hid (decide (xs.map MP.m = ys.map MP.m) = true) := Lib.hid (decide_eq_true (mems_same xs ys (by rw [HL1.out, HL2.out]) (fun j hj => hd.out j (by rw [HL1.out] at hj; omega))))
        go_wp2
        go_ret
        exact ⟨by rw [HE.out]; rfl, hB.out⟩
  · have hb : (((n : Int)) != (m : Int)) = true := by simp; omega
    have HNE : Hid (decide (xs.map MP.m = ys.map MP.m) = false) := Lib.hid (decide_eq_false (fun e => hnm (by have := congrArg List.length e; rw [List.length_map, List.length_map, HL1.out, HL2.out] at this; exact this)))
    go_wp2
    go_ret
    exact ⟨by rw [HNE.out]; rfl, Below.refl _ _⟩
end Go.Proofs.YtdjedimjhogdoaaGreatDoor.Mem
end
section
namespace Go.Proofs.YtdjedimjhogdoaaGreatDoor.Mem
open Go.ChangeShapes Go.WideShapes Go.ChangeAt Go.RowKit Go.Shelf Go.Proofs.YtdjedimjhogdoaaGreatDoor.Base Go.Proofs.YtdjedimjhogdoaaGreatDoor.Byt Go.Proofs.YtdjedimjhogdoaaGreatDoor.Txt Go.Proofs.YtdjedimjhogdoaaGreatDoor.Bk Go.Proofs.YtdjedimjhogdoaaGreatDoor.Mk Go.Proofs.YtdjedimjhogdoaaGreatDoor.Hp Go.Proofs.YtdjedimjhogdoaaGreatDoor.Head Go.Proofs.YtdjedimjhogdoaaGreatDoor.Attr Go.Proofs.YtdjedimjhogdoaaGreatDoor.Rec Go.Proofs.YtdjedimjhogdoaaGreatDoor.Mp Go.Lib
set_option linter.unusedVariables false
set_option maxRecDepth 100000

theorem ld_head (w : World) (g : Nat) (h : HeadV) (hb : Blk w g 57 (headC h)) : (Instr.loadAt 57 (.pointer (some ⟨g, 0, none⟩))).run Tryz.prog w = .ok (.agg (headC h)) w := by
  have c0 := hb.cell
  unfold headC at c0 ⊢
  go_simp
theorem wp_storeHH {o : Oper} {a : Act} {w : World} {K : Act → World → Prop} {Q : Exit → Act → World → Prop} (p x : Operand) (ho : o.op = .store 57 p x) (g : Nat) (hp : a.eval p = .pointer (some ⟨g, 0, none⟩)) (h z : HeadV) (hx : a.eval x = .agg (headC h)) (hz : Blk w g 57 (headC z))
    (hK : ∀ w', Blk w' g 57 (headC h) → Kept (oneB g) w w' → K (a.put o.dst undef) w') : Oper.wp Tryz.prog o a w K Q := by
  have h9 := blk9 hz
  have f0 := hz.frozen
  have c0 := hz.cell
  unfold headC at c0
  have k9 : Kept (oneB g) w (((((((((w.setCell ⟨g, 0, none⟩ (.string (str h.name))).setCell ⟨g, 1, none⟩ (.string (str h.link))).setCell ⟨g, 2, none⟩ (.int .u8 (h.kind.toNat : Int))).setCell ⟨g, 3, none⟩ (.int .i64 h.mode)).setCell ⟨g, 4, none⟩ (.int .i64 h.uid)).setCell ⟨g, 5, none⟩ (.int .i64 h.gid)).setCell ⟨g, 6, none⟩ (.int .i64 h.time)).setCell ⟨g, 7, none⟩ (.int .i64 h.size)).setCell ⟨g, 8, none⟩ (.bool h.gnu)) :=
    (((((((((Kept.refl (oneB g) w).setCell (a := ⟨g, 0, none⟩) (.inr rfl) _).setCell (a := ⟨g, 1, none⟩) (.inr rfl) _).setCell (a := ⟨g, 2, none⟩) (.inr rfl) _).setCell (a := ⟨g, 3, none⟩) (.inr rfl) _).setCell (a := ⟨g, 4, none⟩) (.inr rfl) _).setCell (a := ⟨g, 5, none⟩) (.inr rfl) _).setCell (a := ⟨g, 6, none⟩) (.inr rfl) _).setCell (a := ⟨g, 7, none⟩) (.inr rfl) _).setCell (a := ⟨g, 8, none⟩) (.inr rfl) _
  clear hz
  have hr : (execOp a.eval o).run Tryz.prog w = .ok .skip (((((((((w.setCell ⟨g, 0, none⟩ (.string (str h.name))).setCell ⟨g, 1, none⟩ (.string (str h.link))).setCell ⟨g, 2, none⟩ (.int .u8 (h.kind.toNat : Int))).setCell ⟨g, 3, none⟩ (.int .i64 h.mode)).setCell ⟨g, 4, none⟩ (.int .i64 h.uid)).setCell ⟨g, 5, none⟩ (.int .i64 h.gid)).setCell ⟨g, 6, none⟩ (.int .i64 h.time)).setCell ⟨g, 7, none⟩ (.int .i64 h.size)).setCell ⟨g, 8, none⟩ (.bool h.gnu)) := by
    unfold headC at hx
    generalize a.eval = ev at hp hx
    simp [go_sem, execOp, ho, hp, hx, c0, f0, Result.andThen]
  unfold Oper.wp
  rw [hr, Oper.upon_skip]
  exact hK _ (h9 _ _ _ _ _ _ _ _ _) k9
noncomputable def add5Ops : Array Oper := regionAt Tryz.f54 5
def add5V (r gs mw bx : Nat) (h h' : HeadV) (oq : Option Addr) (on oc : Nat) (ah : HeadV) (ae : Int) : Nat → Value
  | 0 => .pointer (some ⟨r, 0, none⟩) | 1 => .pointer (some ⟨r, 0, none⟩) | 2 => .pointer (some ⟨r, 1, none⟩) | 3 => .pointer (some ⟨gs, 0, none⟩) | 4 => .pointer (some ⟨r, 0, none⟩) | 5 => .agg (headC h) | 6 => .agg (headC h') | 7 => .pointer (some ⟨r, 0, none⟩) | 8 => .pointer (some ⟨r, 0, none⟩) | 9 => .pointer (some ⟨r, 2, none⟩) | 10 => .map (some mw) | 11 => .agg #[.string ⟨#[]⟩, .slice oq on oc] | 12 => .slice oq on oc | 13 => .tuple #[.agg (headC ah), .int .i64 ae] | 14 => .tuple #[.agg (headC ah), .int .i64 ae] | 15 => .agg (headC ah) | 16 => .int .i64 ae | 18 => .int .i64 ae | _ => undef
theorem add5_size : add5Ops.size = 19 := rfl
theorem add5_apart : apartG add5Ops 73 = true := by kernel_rfl
theorem add5_dst0 : dstAt add5Ops 0 = some 18 := rfl
theorem add5_op0 : ∃ o, add5Ops[0]? = some o ∧ o.op = .move (.tmp 0) ∧ o.dst = some 18 := ⟨_, rfl, rfl, rfl⟩
theorem add5_dst1 : dstAt add5Ops 1 = some 19 := rfl
theorem add5_op1 : ∃ o, add5Ops[1]? = some o ∧ o.op = .nilCheck (.tmp 18) ∧ o.dst = some 19 := ⟨_, rfl, rfl, rfl⟩
theorem add5_dst2 : dstAt add5Ops 2 = some 20 := rfl
theorem add5_op2 : ∃ o, add5Ops[2]? = some o ∧ o.op = .fieldAddr 70 (.tmp 19) 1 ∧ o.dst = some 20 := ⟨_, rfl, rfl, rfl⟩
theorem add5_dst3 : dstAt add5Ops 3 = some 21 := rfl
theorem add5_op3 : ∃ o, add5Ops[3]? = some o ∧ o.op = .load 67 (.tmp 20) ∧ o.dst = some 21 := ⟨_, rfl, rfl, rfl⟩
theorem add5_dst4 : dstAt add5Ops 4 = some 22 := rfl
theorem add5_op4 : ∃ o, add5Ops[4]? = some o ∧ o.op = .move (.tmp 0) ∧ o.dst = some 22 := ⟨_, rfl, rfl, rfl⟩
theorem add5_dst5 : dstAt add5Ops 5 = some 23 := rfl
theorem add5_op5 : ∃ o, add5Ops[5]? = some o ∧ o.op = .load 57 (.tmp 3) ∧ o.dst = some 23 := ⟨_, rfl, rfl, rfl⟩
theorem add5_dst6 : dstAt add5Ops 6 = some 24 := rfl
theorem add5_op6 : ∃ o, add5Ops[6]? = some o ∧ o.op = .call { callee := .value (.func 84), args := #[.tmp 22, .tmp 23], argTypes := #[63, 57] } ∧ o.dst = some 24 := ⟨_, rfl, rfl, rfl⟩
theorem add5_dst7 : dstAt add5Ops 7 = some 25 := rfl
theorem add5_op7 : ∃ o, add5Ops[7]? = some o ∧ o.op = .move (.tmp 0) ∧ o.dst = some 25 := ⟨_, rfl, rfl, rfl⟩
theorem add5_dst8 : dstAt add5Ops 8 = some 26 := rfl
theorem add5_op8 : ∃ o, add5Ops[8]? = some o ∧ o.op = .nilCheck (.tmp 25) ∧ o.dst = some 26 := ⟨_, rfl, rfl, rfl⟩
theorem add5_dst9 : dstAt add5Ops 9 = some 27 := rfl
theorem add5_op9 : ∃ o, add5Ops[9]? = some o ∧ o.op = .fieldAddr 70 (.tmp 26) 2 ∧ o.dst = some 27 := ⟨_, rfl, rfl, rfl⟩
theorem add5_dst10 : dstAt add5Ops 10 = some 28 := rfl
theorem add5_op10 : ∃ o, add5Ops[10]? = some o ∧ o.op = .load 68 (.tmp 27) ∧ o.dst = some 28 := ⟨_, rfl, rfl, rfl⟩
theorem add5_dst11 : dstAt add5Ops 11 = some 29 := rfl
theorem add5_op11 : ∃ o, add5Ops[11]? = some o ∧ o.op = .lookup 68 (.tmp 28) (.const (.int .u8 120)) false ∧ o.dst = some 29 := ⟨_, rfl, rfl, rfl⟩
theorem add5_dst12 : dstAt add5Ops 12 = some 30 := rfl
theorem add5_op12 : ∃ o, add5Ops[12]? = some o ∧ o.op = .field 133 (.tmp 29) 1 ∧ o.dst = some 30 := ⟨_, rfl, rfl, rfl⟩
theorem add5_dst13 : dstAt add5Ops 13 = some 31 := rfl
theorem add5_op13 : ∃ o, add5Ops[13]? = some o ∧ o.op = .call { callee := .value (.func 83), args := #[.tmp 21, .tmp 24, .tmp 30], argTypes := #[67, 57, 73] } ∧ o.dst = some 31 := ⟨_, rfl, rfl, rfl⟩
theorem add5_dst14 : dstAt add5Ops 14 = some 17 := rfl
theorem add5_op14 : ∃ o, add5Ops[14]? = some o ∧ o.op = .move (.tmp 31) ∧ o.dst = some 17 := ⟨_, rfl, rfl, rfl⟩
theorem add5_dst15 : dstAt add5Ops 15 = some 32 := rfl
theorem add5_op15 : ∃ o, add5Ops[15]? = some o ∧ o.op = .extract (.tmp 17) 0 ∧ o.dst = some 32 := ⟨_, rfl, rfl, rfl⟩
theorem add5_dst16 : dstAt add5Ops 16 = some 33 := rfl
theorem add5_op16 : ∃ o, add5Ops[16]? = some o ∧ o.op = .extract (.tmp 17) 1 ∧ o.dst = some 33 := ⟨_, rfl, rfl, rfl⟩
theorem add5_dst17 : dstAt add5Ops 17 = none := rfl
theorem add5_op17 : ∃ o, add5Ops[17]? = some o ∧ o.op = .store 57 (.tmp 3) (.tmp 32) ∧ o.dst = none := ⟨_, rfl, rfl, rfl⟩
theorem add5_dst18 : dstAt add5Ops 18 = some 5 := rfl
theorem add5_op18 : ∃ o, add5Ops[18]? = some o ∧ o.op = .assign (.tmp 33) ∧ o.dst = some 5 := ⟨_, rfl, rfl, rfl⟩
/-- what holds throughout -/
structure W5 (w : World) (bx : Nat) (h ah : HeadV) (listed : Array Bool) (w' : World) : Prop where
  bel : Below w.heap.size w w'
  bf : listed.getD 17 false = false → Blk w' bx 57 (headC h)
  aft : listed.getD 17 false = true → Blk w' bx 57 (headC ah) ∧ ∀ j, j < 16 → listed.getD j false = true
theorem W5.keep {w w' : World} {bx : Nat} {h ah : HeadV} {listed : Array Bool} (hW : W5 w bx h ah listed w') {j : Nat} (hlt : j < listed.size) (hj : j ≠ 17) : W5 w bx h ah (listed.setIfInBounds j true) w' := by
  have e : (listed.setIfInBounds j true).getD 17 false = listed.getD 17 false := by rw [listed_get hlt, if_neg (Ne.symm hj)]
  refine ⟨hW.bel, fun hx => hW.bf (by rw [← e]; exact hx), fun hx => ⟨(hW.aft (by rw [← e]; exact hx)).1, fun i hi => ?_⟩⟩
  rw [listed_get hlt]
  split
  · rfl
  · exact (hW.aft (by rw [← e]; exact hx)).2 i hi
theorem W5.not {w w' : World} {bx : Nat} {h ah : HeadV} {listed : Array Bool} (hW : W5 w bx h ah listed w') {j : Nat} (hj : j < 16) (hlf : listed.getD j false = false) : listed.getD 17 false = false := by
  cases hx : listed.getD 17 false with
  | false => rfl
  | true => rw [(hW.aft hx).2 j hj] at hlf; cases hlf
theorem W5.call {w w' w2 : World} {bx : Nat} {h ah : HeadV} {listed : Array Bool} (hW : W5 w bx h ah listed w') {j : Nat} (hlt : j < listed.size) (hj : j < 16) (hlf : listed.getD j false = false) (hb : Below w'.heap.size w' w2) : W5 w bx h ah (listed.setIfInBounds j true) w2 := by
  have hn := hW.not hj hlf
  have e : (listed.setIfInBounds j true).getD 17 false = false := by rw [listed_get hlt, if_neg (by omega)]; exact hn
  refine ⟨hW.bel.trans (hb.mono hW.bel.size), fun _ => (hW.bf hn).below hb (hW.bf hn).lt, fun hx => ?_⟩
  rw [e] at hx
  cases hx
set_option maxHeartbeats 4000000 in
theorem add5_region {Q' : Exit → Act → World → Prop} {a0 : Act} {w w1 : World} (r gs mw bx : Nat) (h h' : HeadV) (oq : Option Addr) (on oc : Nat) (ah : HeadV) (ae : Int)
    (hsz : 73 ≤ a0.tmps.size) (h0 : a0.eval (.tmp 0) = .pointer (some ⟨r, 0, none⟩)) (h3 : a0.eval (.tmp 3) = .pointer (some ⟨bx, 0, none⟩)) (hbx : w.heap.size ≤ bx) (hb1 : Below w.heap.size w w1) (hbox : Blk w1 bx 57 (headC h))
    (hS : ∀ wi, Below w.heap.size w wi → (wi.cell? ⟨r, 1, none⟩ = some (.pointer (some ⟨gs, 0, none⟩)) ∧ wi.cell? ⟨r, 2, none⟩ = some (.map (some mw))) ∧ (Instr.lookup 68 (.map (some mw)) (.int .u8 120) false).run Tryz.prog wi = .ok (.agg #[.string ⟨#[]⟩, .slice oq on oc]) wi)
    (hren : ∀ wi, Below w.heap.size w wi → Calls Tryz.prog 84 #[.pointer (some ⟨r, 0, none⟩), .agg (headC h)] wi fun e w' => e = .returned (.agg (headC h')) ∧ Below wi.heap.size wi w')
    (happ : ∀ wi, Below w.heap.size w wi → Calls Tryz.prog 83 #[.pointer (some ⟨gs, 0, none⟩), .agg (headC h'), .slice oq on oc] wi fun e w' => e = .returned (.tuple #[.agg (headC ah), .int .i64 ae]) ∧ Below wi.heap.size wi w')
    (hQ : ∀ w', Below w.heap.size w w' → Blk w' bx 57 (headC ah) → Q' .normal ((((((((((((((((((a0.put (some 18) (.pointer (some ⟨r, 0, none⟩))).put (some 19) (.pointer (some ⟨r, 0, none⟩))).put (some 20) (.pointer (some ⟨r, 1, none⟩))).put (some 21) (.pointer (some ⟨gs, 0, none⟩))).put (some 22) (.pointer (some ⟨r, 0, none⟩))).put (some 23) (.agg (headC h))).put (some 24) (.agg (headC h'))).put (some 25) (.pointer (some ⟨r, 0, none⟩))).put (some 26) (.pointer (some ⟨r, 0, none⟩))).put (some 27) (.pointer (some ⟨r, 2, none⟩))).put (some 28) (.map (some mw))).put (some 29) (.agg #[.string ⟨#[]⟩, .slice oq on oc])).put (some 30) (.slice oq on oc)).put (some 31) (.tuple #[.agg (headC ah), .int .i64 ae])).put (some 17) (.tuple #[.agg (headC ah), .int .i64 ae])).put (some 32) (.agg (headC ah))).put (some 33) (.int .i64 ae)).put (some 5) (.int .i64 ae)) w') :
    wpAny Tryz.prog .any add5Ops Q' add5Ops.size (Array.replicate add5Ops.size false) a0 w1.drew := by
  have no : ∀ j, (Array.replicate add5Ops.size false).getD j false = false := fun j => by
    rw [Array.getD_eq_getD_getElem?, Array.getElem?_replicate]
    split <;> rfl
  refine wpAny_ghost (Γ := Unit) (fun _ => add5V r gs mw bx h h' oq on oc ah ae) () a0 (fun _ listed w' => W5 w bx h ah listed w') 73 add5_apart hsz ?_ ?_ ?_
  · intro γ listed a w' j o hRI ho hun hdep
    have hlt := lt_of_unlisted hun
    have hW := hRI.wd
    have hj : j < 19 := by
      have := (Array.getElem?_eq_some_iff.1 ho).1
      rwa [add5_size] at this
    have same : ∀ {j' : Nat} {o' : Oper}, add5Ops[j']? = some o' → j = j' → o' = o := fun {j' o'} h' e => by subst e; exact Option.some.inj (h'.symm.trans ho)
    have hlf := getD_flip hun
    have hne : ∀ i, listed.getD i false = true → i ≠ j := fun i hi e => by rw [e, hlf] at hi; cases hi
    rcases (show j = 0 ∨ j = 1 ∨ j = 2 ∨ j = 3 ∨ j = 4 ∨ j = 5 ∨ j = 6 ∨ j = 7 ∨ j = 8 ∨ j = 9 ∨ j = 10 ∨ j = 11 ∨ j = 12 ∨ j = 13 ∨ j = 14 ∨ j = 15 ∨ j = 16 ∨ j = 17 ∨ j = 18 by omega) with rfl | rfl | rfl | rfl | rfl | rfl | rfl | rfl | rfl | rfl | rfl | rfl | rfl | rfl | rfl | rfl | rfl | rfl | rfl
    · obtain ⟨o', ho', hop, hdst⟩ := add5_op0
      obtain rfl := same ho' rfl
      have e0 : a.eval (.tmp 0) = .pointer (some ⟨r, 0, none⟩) := (hRI.old (t := 0) (by kernel_rfl)).trans h0
      exact wp_move _ _ (Or.inl hop) e0 ⟨γ, fun _ _ => rfl, rfl, hW.keep hlt (by decide)⟩
    · obtain ⟨o', ho', hop, hdst⟩ := add5_op1
      obtain rfl := same ho' rfl
      have e0 : a.eval (.tmp 18) = .pointer (some ⟨r, 0, none⟩) := (hRI.get ho hdep (i := 0) (d := 18) (by kernel_rfl) rfl)
      refine wp_run _ ?_ ⟨γ, fun _ _ => rfl, rfl, hW.keep hlt (by decide)⟩
      generalize a.eval = ev at e0 ⊢
      simp [go_sem, execOp, hop, e0, add5V]
    · obtain ⟨o', ho', hop, hdst⟩ := add5_op2
      obtain rfl := same ho' rfl
      have e0 : a.eval (.tmp 19) = .pointer (some ⟨r, 0, none⟩) := (hRI.get ho hdep (i := 1) (d := 19) (by kernel_rfl) rfl)
      refine wp_run _ ?_ ⟨γ, fun _ _ => rfl, rfl, hW.keep hlt (by decide)⟩
      generalize a.eval = ev at e0 ⊢
      simp [go_sem, execOp, hop, e0, add5V]
    · obtain ⟨o', ho', hop, hdst⟩ := add5_op3
      obtain rfl := same ho' rfl
      have e0 : a.eval (.tmp 20) = .pointer (some ⟨r, 1, none⟩) := (hRI.get ho hdep (i := 2) (d := 20) (by kernel_rfl) rfl)
      have q := (hS w' hW.bel).1.1
      refine wp_run _ ?_ ⟨γ, fun _ _ => rfl, rfl, hW.keep hlt (by decide)⟩
      generalize a.eval = ev at e0 ⊢
      simp [go_sem, execOp, hop, e0, q, add5V]
    · obtain ⟨o', ho', hop, hdst⟩ := add5_op4
      obtain rfl := same ho' rfl
      have e0 : a.eval (.tmp 0) = .pointer (some ⟨r, 0, none⟩) := (hRI.old (t := 0) (by kernel_rfl)).trans h0
      exact wp_move _ _ (Or.inl hop) e0 ⟨γ, fun _ _ => rfl, rfl, hW.keep hlt (by decide)⟩
    · obtain ⟨o', ho', hop, hdst⟩ := add5_op5
      obtain rfl := same ho' rfl
      have e0 : a.eval (.tmp 3) = .pointer (some ⟨bx, 0, none⟩) := (hRI.old (t := 3) (by kernel_rfl)).trans h3
      refine wp_run _ ?_ ⟨γ, fun _ _ => rfl, rfl, hW.keep hlt (by decide)⟩
      have q := ld_head w' bx h (hW.bf (hW.not (by omega) hlf))
      simp [execOp, hop, e0, q, Result.andThen, add5V]
    · obtain ⟨o', ho', hop, hdst⟩ := add5_op6
      obtain rfl := same ho' rfl
      have e0 : a.eval (.tmp 22) = .pointer (some ⟨r, 0, none⟩) := (hRI.get ho hdep (i := 4) (d := 22) (by kernel_rfl) rfl)
      have e1 : a.eval (.tmp 23) = .agg (headC h) := (hRI.get ho hdep (i := 5) (d := 23) (by kernel_rfl) rfl)
      refine wp_call _ _ _ hop #[.pointer (some ⟨r, 0, none⟩), .agg (headC h)] (by simp [e0, e1]) (enters_of Tryz.func84 (by kernel_rfl) rfl) _ _ (hren w' hW.bel) (fun w2 hb => ⟨γ, fun _ _ => rfl, rfl, hW.call hlt (by omega) hlf hb⟩)
    · obtain ⟨o', ho', hop, hdst⟩ := add5_op7
      obtain rfl := same ho' rfl
      have e0 : a.eval (.tmp 0) = .pointer (some ⟨r, 0, none⟩) := (hRI.old (t := 0) (by kernel_rfl)).trans h0
      exact wp_move _ _ (Or.inl hop) e0 ⟨γ, fun _ _ => rfl, rfl, hW.keep hlt (by decide)⟩
    · obtain ⟨o', ho', hop, hdst⟩ := add5_op8
      obtain rfl := same ho' rfl
      have e0 : a.eval (.tmp 25) = .pointer (some ⟨r, 0, none⟩) := (hRI.get ho hdep (i := 7) (d := 25) (by kernel_rfl) rfl)
      refine wp_run _ ?_ ⟨γ, fun _ _ => rfl, rfl, hW.keep hlt (by decide)⟩
      generalize a.eval = ev at e0 ⊢
      simp [go_sem, execOp, hop, e0, add5V]
    · obtain ⟨o', ho', hop, hdst⟩ := add5_op9
      obtain rfl := same ho' rfl
      have e0 : a.eval (.tmp 26) = .pointer (some ⟨r, 0, none⟩) := (hRI.get ho hdep (i := 8) (d := 26) (by kernel_rfl) rfl)
      refine wp_run _ ?_ ⟨γ, fun _ _ => rfl, rfl, hW.keep hlt (by decide)⟩
      generalize a.eval = ev at e0 ⊢
      simp [go_sem, execOp, hop, e0, add5V]
    · obtain ⟨o', ho', hop, hdst⟩ := add5_op10
      obtain rfl := same ho' rfl
      have e0 : a.eval (.tmp 27) = .pointer (some ⟨r, 2, none⟩) := (hRI.get ho hdep (i := 9) (d := 27) (by kernel_rfl) rfl)
      have q := (hS w' hW.bel).1.2
      refine wp_run _ ?_ ⟨γ, fun _ _ => rfl, rfl, hW.keep hlt (by decide)⟩
      generalize a.eval = ev at e0 ⊢
      simp [go_sem, execOp, hop, e0, q, add5V]
    · obtain ⟨o', ho', hop, hdst⟩ := add5_op11
      obtain rfl := same ho' rfl
      have e0 : a.eval (.tmp 28) = .map (some mw) := (hRI.get ho hdep (i := 10) (d := 28) (by kernel_rfl) rfl)
      exact wp_look _ _ _ hop _ _ _ e0 (evalC a _) (hS w' hW.bel).2 ⟨γ, fun _ _ => rfl, rfl, hW.keep hlt (by decide)⟩
    · obtain ⟨o', ho', hop, hdst⟩ := add5_op12
      obtain rfl := same ho' rfl
      have e0 : a.eval (.tmp 29) = .agg #[.string ⟨#[]⟩, .slice oq on oc] := (hRI.get ho hdep (i := 11) (d := 29) (by kernel_rfl) rfl)
      refine wp_run _ ?_ ⟨γ, fun _ _ => rfl, rfl, hW.keep hlt (by decide)⟩
      have q := ext_field w' ⟨#[]⟩ oq on oc
      simp [execOp, hop, e0, q, Result.andThen, add5V]
    · obtain ⟨o', ho', hop, hdst⟩ := add5_op13
      obtain rfl := same ho' rfl
      have e0 : a.eval (.tmp 21) = .pointer (some ⟨gs, 0, none⟩) := (hRI.get ho hdep (i := 3) (d := 21) (by kernel_rfl) rfl)
      have e1 : a.eval (.tmp 24) = .agg (headC h') := (hRI.get ho hdep (i := 6) (d := 24) (by kernel_rfl) rfl)
      have e2 : a.eval (.tmp 30) = .slice oq on oc := (hRI.get ho hdep (i := 12) (d := 30) (by kernel_rfl) rfl)
      refine wp_call _ _ _ hop #[.pointer (some ⟨gs, 0, none⟩), .agg (headC h'), .slice oq on oc] (by simp [e0, e1, e2]) (enters_of Tryz.func83 (by kernel_rfl) rfl) _ _ (happ w' hW.bel) (fun w2 hb => ⟨γ, fun _ _ => rfl, rfl, hW.call hlt (by omega) hlf hb⟩)
    · obtain ⟨o', ho', hop, hdst⟩ := add5_op14
      obtain rfl := same ho' rfl
      have e0 : a.eval (.tmp 31) = .tuple #[.agg (headC ah), .int .i64 ae] := (hRI.get ho hdep (i := 13) (d := 31) (by kernel_rfl) rfl)
      exact wp_move _ _ (Or.inl hop) e0 ⟨γ, fun _ _ => rfl, rfl, hW.keep hlt (by decide)⟩
    · obtain ⟨o', ho', hop, hdst⟩ := add5_op15
      obtain rfl := same ho' rfl
      have e0 : a.eval (.tmp 17) = .tuple #[.agg (headC ah), .int .i64 ae] := (hRI.get ho hdep (i := 14) (d := 17) (by kernel_rfl) rfl)
      refine wp_run _ ?_ ⟨γ, fun _ _ => rfl, rfl, hW.keep hlt (by decide)⟩
      generalize a.eval = ev at e0 ⊢
      simp [go_sem, execOp, hop, e0, add5V]
    · obtain ⟨o', ho', hop, hdst⟩ := add5_op16
      obtain rfl := same ho' rfl
      have e0 : a.eval (.tmp 17) = .tuple #[.agg (headC ah), .int .i64 ae] := (hRI.get ho hdep (i := 14) (d := 17) (by kernel_rfl) rfl)
      refine wp_run _ ?_ ⟨γ, fun _ _ => rfl, rfl, hW.keep hlt (by decide)⟩
      generalize a.eval = ev at e0 ⊢
      simp [go_sem, execOp, hop, e0, add5V]
    · obtain ⟨o', ho', hop, hdst⟩ := add5_op17
      obtain rfl := same ho' rfl
      have e0 : a.eval (.tmp 3) = .pointer (some ⟨bx, 0, none⟩) := (hRI.old (t := 3) (by kernel_rfl)).trans h3
      have e1 : a.eval (.tmp 32) = .agg (headC ah) := (hRI.get ho hdep (i := 15) (d := 32) (by kernel_rfl) rfl)
      have all : ∀ j, j < 16 → listed.getD j false = true := fun j hj => by
        rcases (show j = 0 ∨ j = 1 ∨ j = 2 ∨ j = 3 ∨ j = 4 ∨ j = 5 ∨ j = 6 ∨ j = 7 ∨ j = 8 ∨ j = 9 ∨ j = 10 ∨ j = 11 ∨ j = 12 ∨ j = 13 ∨ j = 14 ∨ j = 15 by omega) with rfl | rfl | rfl | rfl | rfl | rfl | rfl | rfl | rfl | rfl | rfl | rfl | rfl | rfl | rfl | rfl <;> exact dep_listed ho hdep (by kernel_rfl)
      refine wp_storeHH _ _ hop bx e0 ah h e1 (hW.bf hlf) (fun w2 hb2 hk => ⟨γ, fun _ _ => rfl, rfl, ⟨hW.bel.trans (hk.below hW.bel.size (fun k hk => by rw [show k = bx from hk]; exact hbx)), fun hx => ?_, fun _ => ⟨hb2, fun j hj => ?_⟩⟩⟩)
      · rw [listed_get hlt, if_pos rfl] at hx
        cases hx
      · rw [listed_get hlt]
        split
        · rfl
        · exact all j hj
    · obtain ⟨o', ho', hop, hdst⟩ := add5_op18
      obtain rfl := same ho' rfl
      have e0 : a.eval (.tmp 33) = .int .i64 ae := (hRI.get ho hdep (i := 16) (d := 33) (by kernel_rfl) rfl)
      exact wp_move _ _ (Or.inr hop) e0 ⟨γ, fun _ _ => rfl, rfl, hW.keep hlt (by decide)⟩
  · intro γ listed a w' hRI hall
    have all : ∀ j, j < 19 → listed.getD j false = true := fun j hj => hall j (by rw [add5_size]; exact hj)
    have hW := hRI.wd
    rw [done_putAllG 73 add5_apart hsz hRI hall, add5_size]
    simp only [putAll, add5_dst0, add5_dst1, add5_dst2, add5_dst3, add5_dst4, add5_dst5, add5_dst6, add5_dst7, add5_dst8, add5_dst9, add5_dst10, add5_dst11, add5_dst12, add5_dst13, add5_dst14, add5_dst15, add5_dst16, add5_dst17, add5_dst18, put_none, add5V]
    exact hQ w' hW.bel (hW.aft (all 17 (by omega))).1
  · exact ⟨hb1.drew, fun _ => hbox.drew, fun hx => by rw [no] at hx; cases hx⟩
end Go.Proofs.YtdjedimjhogdoaaGreatDoor.Mem
end
section
namespace Go.Proofs.YtdjedimjhogdoaaGreatDoor.Mem
open Go.ChangeShapes Go.WideShapes Go.ChangeAt Go.RowKit Go.Shelf Go.Proofs.YtdjedimjhogdoaaGreatDoor.Base Go.Proofs.YtdjedimjhogdoaaGreatDoor.Byt Go.Proofs.YtdjedimjhogdoaaGreatDoor.Txt Go.Proofs.YtdjedimjhogdoaaGreatDoor.Bk Go.Proofs.YtdjedimjhogdoaaGreatDoor.Mk Go.Proofs.YtdjedimjhogdoaaGreatDoor.Block Go.Proofs.YtdjedimjhogdoaaGreatDoor.Hp Go.Proofs.YtdjedimjhogdoaaGreatDoor.Head Go.Proofs.YtdjedimjhogdoaaGreatDoor.Attr Go.Proofs.YtdjedimjhogdoaaGreatDoor.Rec Go.Proofs.YtdjedimjhogdoaaGreatDoor.Mp Go.Lib
set_option linter.unusedVariables false
set_option maxRecDepth 100000

theorem ld_mem (w : World) (g : Nat) (y : MP) (hb : Blk w g 37 y.cs) : (Instr.loadAt 37 (.pointer (some ⟨g, 0, none⟩))).run Tryz.prog w = .ok (.agg y.cs) w := by
  have c0 := hb.cell
  unfold MP.cs memC at c0 ⊢
  go_simp
theorem bs_mem (w : World) (a b : ByteArray) (k m u i t : Int) (p : Option Addr) (n c : Nat) : (Instr.buildSlice 25 1 #[(0, .agg #[.string a, .string b, .int .u8 k, .int .i64 m, .int .i64 u, .int .i64 i, .int .i64 t, .slice p n c])]).run Tryz.prog w =
    .ok (.slice (some ⟨w.heap.size, 0, none⟩) 1 1) (w.alloc (.cells #[.string a, .string b, .int .u8 k, .int .i64 m, .int .i64 u, .int .i64 i, .int .i64 t, .slice p n c] 37)) := by kernel_rfl
theorem bs_memY (w : World) (y : MP) : (Instr.buildSlice 25 1 #[(0, .agg y.cs)]).run Tryz.prog w = .ok (.slice (some ⟨w.heap.size, 0, none⟩) 1 1) (w.alloc (.cells y.cs 37)) := bs_mem w _ _ _ _ _ _ _ _ _ _
theorem wp_append_member {w : World} {o : Oper} {b : Act} {Kk : Act → World → Prop} {Q : Exit → Act → World → Prop} (x y : Operand)
    (ho : o.op = .call { callee := .builtin .append, args := #[x, y], argTypes := #[25, 25] })
    (base : Nat) (v : Value) (xs : List MP) (hs : b.eval x = v) (hown : w.ownsRow base 37 8 v xs.length (flatM xs))
    (g : Nat) (d : Nat) (z : MP) (hx : b.eval y = .slice (some ⟨g, 0, none⟩) 1 d) (hb : Blk w g 37 z.cs) (hsum : xs.length ≤ 1000000) (hbase : base ≤ w.heap.size)
    (h : ∀ v' w', w'.ownsRow base 37 8 v' (xs ++ [z]).length (flatM (xs ++ [z])) → w.grownBy w' v.ownBlock → NewOr w v v' → Kk (b.put o.dst v') w') : Oper.wp Tryz.prog o b w Kk Q := by
  obtain ⟨i0, hi, hz0, hz1, hz2⟩ := info_parts infoMem
  obtain ⟨v', w', hr, h2, h3, h4⟩ := run_append_newS (P := Tryz.prog) base 25 o.type 37 i0 _ 8 96 Tryz.underlying25 hi hz0 hz1 hz2 rfl (by decide) v xs.length (flatM xs) hown ⟨g, 0, none⟩ 1 d z.cs.toList rfl (by
    intro j u hj
    rw [WideShapes.add_plain, Nat.zero_add, hb.cell, ← Array.getElem?_toList]
    exact hj) (fun u hu => flatM_one [z] u (by simpa [flatM] using hu)) (by unfold maxLen; omega) (by omega) hbase
  have hr2 : (execOp b.eval o).run Tryz.prog w = .ok (.value v') w' := by simp [execOp, ho, resolve, invoke, builtin, hs, hx, hr, Result.andThen]
  unfold Oper.wp
  rw [hr2, Oper.upon_value]
  rw [← flatM_snoc, show xs.length + 1 = (xs ++ [z]).length by simp] at h2
  exact h v' w' h2 h3 h4
/-- a member was put behind the others -/
def AppDone (base : Nat) (v : Value) (xs : List MP) (y : MP) (w1 wB : World) (va : Value) : Prop :=
  ∃ wA, Below w1.heap.size w1 wA ∧ wB.ownsRow base 37 8 va (xs ++ [y]).length (flatM (xs ++ [y])) ∧ wA.grownBy wB v.ownBlock ∧ NewOr wA v va
noncomputable def add14Ops : Array Oper := regionAt Tryz.f54 14
structure add14G where
  gb : Nat
  va : Value
def add14V (r bm : Nat) (v : Value) (y : MP) (γ : add14G) : Nat → Value
  | 0 => .pointer (some ⟨r, 0, none⟩) | 1 => .pointer (some ⟨r, 0, none⟩) | 2 => .pointer (some ⟨r, 0, none⟩) | 3 => .pointer (some ⟨r, 3, none⟩) | 4 => v | 5 => .agg y.cs | 6 => .slice (some ⟨γ.gb, 0, none⟩) 1 1 | 7 => γ.va | 8 => .pointer (some ⟨r, 0, none⟩) | 9 => .pointer (some ⟨r, 3, none⟩) | _ => undef
theorem add14_size : add14Ops.size = 11 := rfl
theorem add14_apart : apartG add14Ops 73 = true := by kernel_rfl
theorem add14_dst0 : dstAt add14Ops 0 = some 59 := rfl
theorem add14_op0 : ∃ o, add14Ops[0]? = some o ∧ o.op = .move (.tmp 0) ∧ o.dst = some 59 := ⟨_, rfl, rfl, rfl⟩
theorem add14_dst1 : dstAt add14Ops 1 = some 60 := rfl
theorem add14_op1 : ∃ o, add14Ops[1]? = some o ∧ o.op = .move (.tmp 0) ∧ o.dst = some 60 := ⟨_, rfl, rfl, rfl⟩
theorem add14_dst2 : dstAt add14Ops 2 = some 61 := rfl
theorem add14_op2 : ∃ o, add14Ops[2]? = some o ∧ o.op = .nilCheck (.tmp 60) ∧ o.dst = some 61 := ⟨_, rfl, rfl, rfl⟩
theorem add14_dst3 : dstAt add14Ops 3 = some 62 := rfl
theorem add14_op3 : ∃ o, add14Ops[3]? = some o ∧ o.op = .fieldAddr 70 (.tmp 61) 3 ∧ o.dst = some 62 := ⟨_, rfl, rfl, rfl⟩
theorem add14_dst4 : dstAt add14Ops 4 = some 63 := rfl
theorem add14_op4 : ∃ o, add14Ops[4]? = some o ∧ o.op = .load 25 (.tmp 62) ∧ o.dst = some 63 := ⟨_, rfl, rfl, rfl⟩
theorem add14_dst5 : dstAt add14Ops 5 = some 64 := rfl
theorem add14_op5 : ∃ o, add14Ops[5]? = some o ∧ o.op = .load 37 (.tmp 6) ∧ o.dst = some 64 := ⟨_, rfl, rfl, rfl⟩
theorem add14_dst6 : dstAt add14Ops 6 = some 65 := rfl
theorem add14_op6 : ∃ o, add14Ops[6]? = some o ∧ o.op = .buildSlice 25 1 #[(0, .tmp 64)] ∧ o.dst = some 65 := ⟨_, rfl, rfl, rfl⟩
theorem add14_dst7 : dstAt add14Ops 7 = some 66 := rfl
theorem add14_op7 : ∃ o, add14Ops[7]? = some o ∧ o.op = .call { callee := .builtin .append, args := #[.tmp 63, .tmp 65], argTypes := #[25, 25] } ∧ o.dst = some 66 := ⟨_, rfl, rfl, rfl⟩
theorem add14_dst8 : dstAt add14Ops 8 = some 67 := rfl
theorem add14_op8 : ∃ o, add14Ops[8]? = some o ∧ o.op = .nilCheck (.tmp 59) ∧ o.dst = some 67 := ⟨_, rfl, rfl, rfl⟩
theorem add14_dst9 : dstAt add14Ops 9 = some 68 := rfl
theorem add14_op9 : ∃ o, add14Ops[9]? = some o ∧ o.op = .fieldAddr 70 (.tmp 67) 3 ∧ o.dst = some 68 := ⟨_, rfl, rfl, rfl⟩
theorem add14_dst10 : dstAt add14Ops 10 = none := rfl
theorem add14_op10 : ∃ o, add14Ops[10]? = some o ∧ o.op = .store 25 (.tmp 68) (.tmp 66) ∧ o.dst = none := ⟨_, rfl, rfl, rfl⟩
theorem add14V_gb (r bm : Nat) (v : Value) (y : MP) (γ : add14G) (x : Nat) {i : Nat} (h : i ≠ 6) : add14V r bm v y { γ with gb := x } i = add14V r bm v y γ i := by
  unfold add14V
  split <;> first | rfl | (exfalso; omega)
theorem add14V_va (r bm : Nat) (v : Value) (y : MP) (γ : add14G) (x : Value) {i : Nat} (h : i ≠ 7) : add14V r bm v y { γ with va := x } i = add14V r bm v y γ i := by
  unfold add14V
  split <;> first | rfl | (exfalso; omega)
/-- what holds throughout -/
structure W14 (base r : Nat) (v : Value) (xs : List MP) (y : MP) (w1 : World) (γ : add14G) (listed : Array Bool) (w' : World) : Prop where
  pre : listed.getD 7 false = false → Below w1.heap.size w1 w'
  bs : listed.getD 6 false = true → listed.getD 7 false = false → Blk w' γ.gb 37 y.cs
  ap : listed.getD 7 false = true → listed.getD 10 false = false → AppDone base v xs y w1 w' γ.va
  st : listed.getD 10 false = true → ∃ wB, AppDone base v xs y w1 wB γ.va ∧ w' = wB.setCell ⟨r, 3, none⟩ γ.va
  c7 : listed.getD 7 false = true → listed.getD 4 false = true ∧ listed.getD 6 false = true
  c6 : listed.getD 6 false = true → listed.getD 5 false = true
  c10 : listed.getD 10 false = true → listed.getD 7 false = true
theorem W14.keep {base r : Nat} {v : Value} {xs : List MP} {y : MP} {w1 w' : World} {γ : add14G} {listed : Array Bool} (hW : W14 base r v xs y w1 γ listed w') {j : Nat} (hlt : j < listed.size) (hj : j ≠ 6 ∧ j ≠ 7 ∧ j ≠ 10) : W14 base r v xs y w1 γ (listed.setIfInBounds j true) w' := by
  have e6 : (listed.setIfInBounds j true).getD 6 false = listed.getD 6 false := by rw [listed_get hlt, if_neg (by omega)]
  have e7 : (listed.setIfInBounds j true).getD 7 false = listed.getD 7 false := by rw [listed_get hlt, if_neg (by omega)]
  have e10 : (listed.setIfInBounds j true).getD 10 false = listed.getD 10 false := by rw [listed_get hlt, if_neg (by omega)]
  have up : ∀ i, listed.getD i false = true → (listed.setIfInBounds j true).getD i false = true := fun i hi => by
    rw [listed_get hlt]
    split
    · rfl
    · exact hi
  exact ⟨by rw [e7]; exact hW.pre, by rw [e6, e7]; exact hW.bs, by rw [e7, e10]; exact hW.ap, by rw [e10]; exact hW.st, fun h => ⟨up _ (hW.c7 (by rw [← e7]; exact h)).1, up _ (hW.c7 (by rw [← e7]; exact h)).2⟩, fun h => up _ (hW.c6 (by rw [← e6]; exact h)), by rw [e7, e10]; exact hW.c10⟩
theorem W14.not7 {base r : Nat} {v : Value} {xs : List MP} {y : MP} {w1 w' : World} {γ : add14G} {listed : Array Bool} (hW : W14 base r v xs y w1 γ listed w') {j : Nat} (hj : j = 4 ∨ j = 5 ∨ j = 6) (hlf : listed.getD j false = false) : listed.getD 7 false = false := by
  cases hx : listed.getD 7 false with
  | false => rfl
  | true =>
    obtain ⟨h4, h6⟩ := hW.c7 hx
    rcases hj with rfl | rfl | rfl
    · rw [h4] at hlf; cases hlf
    · rw [hW.c6 h6] at hlf; cases hlf
    · rw [h6] at hlf; cases hlf
set_option maxHeartbeats 4000000 in
theorem add14_region {Q' : Exit → Act → World → Prop} {a0 : Act} {w1 : World} (base r bm : Nat) (v : Value) (xs : List MP) (y : MP) (cs : Array Value)
    (hsz : 73 ≤ a0.tmps.size) (h0 : a0.eval (.tmp 0) = .pointer (some ⟨r, 0, none⟩)) (h6 : a0.eval (.tmp 6) = .pointer (some ⟨bm, 0, none⟩)) (hbm : Blk w1 bm 37 y.cs) (hbr : Blk w1 r 70 cs) (hc3 : cs[3]? = some v) (hrv : v.ownBlock ≠ some r)
    (hrow : w1.ownsRow base 37 8 v xs.length (flatM xs)) (hbase : base ≤ w1.heap.size) (hxs : xs.length ≤ 1000000)
    (hQ : ∀ (γ : add14G) wB, AppDone base v xs y w1 wB γ.va → Q' .normal ((((((((((a0.put (some 59) (.pointer (some ⟨r, 0, none⟩))).put (some 60) (.pointer (some ⟨r, 0, none⟩))).put (some 61) (.pointer (some ⟨r, 0, none⟩))).put (some 62) (.pointer (some ⟨r, 3, none⟩))).put (some 63) (v)).put (some 64) (.agg y.cs)).put (some 65) (.slice (some ⟨γ.gb, 0, none⟩) 1 1)).put (some 66) (γ.va)).put (some 67) (.pointer (some ⟨r, 0, none⟩))).put (some 68) (.pointer (some ⟨r, 3, none⟩))) (wB.setCell ⟨r, 3, none⟩ γ.va)) :
    wpAny Tryz.prog .any add14Ops Q' add14Ops.size (Array.replicate add14Ops.size false) a0 w1.drew := by
  have no : ∀ j, (Array.replicate add14Ops.size false).getD j false = false := fun j => by
    rw [Array.getD_eq_getD_getElem?, Array.getElem?_replicate]
    split <;> rfl
  refine wpAny_ghost (Γ := add14G) (add14V r bm v y) { gb := 0, va := undef } a0 (fun γ listed w' => W14 base r v xs y w1 γ listed w') 73 add14_apart hsz ?_ ?_ ?_
  · intro γ listed a w' j o hRI ho hun hdep
    have hlt := lt_of_unlisted hun
    have hW := hRI.wd
    have hj : j < 11 := by
      have := (Array.getElem?_eq_some_iff.1 ho).1
      rwa [add14_size] at this
    have same : ∀ {j' : Nat} {o' : Oper}, add14Ops[j']? = some o' → j = j' → o' = o := fun {j' o'} h' e => by subst e; exact Option.some.inj (h'.symm.trans ho)
    have hlf := getD_flip hun
    have hne : ∀ i, listed.getD i false = true → i ≠ j := fun i hi e => by rw [e, hlf] at hi; cases hi
    rcases (show j = 0 ∨ j = 1 ∨ j = 2 ∨ j = 3 ∨ j = 4 ∨ j = 5 ∨ j = 6 ∨ j = 7 ∨ j = 8 ∨ j = 9 ∨ j = 10 by omega) with rfl | rfl | rfl | rfl | rfl | rfl | rfl | rfl | rfl | rfl | rfl
    · obtain ⟨o', ho', hop, hdst⟩ := add14_op0
      obtain rfl := same ho' rfl
      have e0 : a.eval (.tmp 0) = .pointer (some ⟨r, 0, none⟩) := (hRI.old (t := 0) (by kernel_rfl)).trans h0
      exact wp_move _ _ (Or.inl hop) e0 ⟨γ, fun _ _ => rfl, rfl, hW.keep hlt (by decide)⟩
    · obtain ⟨o', ho', hop, hdst⟩ := add14_op1
      obtain rfl := same ho' rfl
      have e0 : a.eval (.tmp 0) = .pointer (some ⟨r, 0, none⟩) := (hRI.old (t := 0) (by kernel_rfl)).trans h0
      exact wp_move _ _ (Or.inl hop) e0 ⟨γ, fun _ _ => rfl, rfl, hW.keep hlt (by decide)⟩
    · obtain ⟨o', ho', hop, hdst⟩ := add14_op2
      obtain rfl := same ho' rfl
      have e0 : a.eval (.tmp 60) = .pointer (some ⟨r, 0, none⟩) := (hRI.get ho hdep (i := 1) (d := 60) (by kernel_rfl) rfl)
      refine wp_run _ ?_ ⟨γ, fun _ _ => rfl, rfl, hW.keep hlt (by decide)⟩
      generalize a.eval = ev at e0 ⊢
      simp [go_sem, execOp, hop, e0, add14V]
    · obtain ⟨o', ho', hop, hdst⟩ := add14_op3
      obtain rfl := same ho' rfl
      have e0 : a.eval (.tmp 61) = .pointer (some ⟨r, 0, none⟩) := (hRI.get ho hdep (i := 2) (d := 61) (by kernel_rfl) rfl)
      refine wp_run _ ?_ ⟨γ, fun _ _ => rfl, rfl, hW.keep hlt (by decide)⟩
      generalize a.eval = ev at e0 ⊢
      simp [go_sem, execOp, hop, e0, add14V]
    · obtain ⟨o', ho', hop, hdst⟩ := add14_op4
      obtain rfl := same ho' rfl
      have e0 : a.eval (.tmp 62) = .pointer (some ⟨r, 3, none⟩) := (hRI.get ho hdep (i := 3) (d := 62) (by kernel_rfl) rfl)
      have hn := hW.not7 (.inl rfl) hlf
      have q := (hbr.below (hW.pre hn) hbr.lt).cell 3
      rw [hc3] at q
      refine wp_run _ ?_ ⟨γ, fun _ _ => rfl, rfl, hW.keep hlt (by decide)⟩
      generalize a.eval = ev at e0 ⊢
      simp [go_sem, execOp, hop, e0, q, add14V]
    · obtain ⟨o', ho', hop, hdst⟩ := add14_op5
      obtain rfl := same ho' rfl
      have e0 : a.eval (.tmp 6) = .pointer (some ⟨bm, 0, none⟩) := (hRI.old (t := 6) (by kernel_rfl)).trans h6
      have hn := hW.not7 (.inr (.inl rfl)) hlf
      refine wp_run _ ?_ ⟨γ, fun _ _ => rfl, rfl, hW.keep hlt (by decide)⟩
      have q := ld_mem w' bm y (hbm.below (hW.pre hn) hbm.lt)
      simp [execOp, hop, e0, q, Result.andThen, add14V]
    · obtain ⟨o', ho', hop, hdst⟩ := add14_op6
      obtain rfl := same ho' rfl
      have e0 : a.eval (.tmp 64) = .agg y.cs := (hRI.get ho hdep (i := 5) (d := 64) (by kernel_rfl) rfl)
      have hn := hW.not7 (.inr (.inr rfl)) hlf
      have q := bs_memY w' y
      have hr : (execOp a.eval o').run Tryz.prog w' = .ok (.value (.slice (some ⟨w'.heap.size, 0, none⟩) 1 1)) (w'.alloc (.cells y.cs 37)) := by simp [execOp, hop, e0, q, Result.andThen]
      unfold Oper.wp
      rw [hr, Oper.upon_value]
      have e7 : (listed.setIfInBounds 6 true).getD 7 false = listed.getD 7 false := by rw [listed_get hlt, if_neg (by decide)]
      have e10 : (listed.setIfInBounds 6 true).getD 10 false = listed.getD 10 false := by rw [listed_get hlt, if_neg (by decide)]
      refine ⟨{ γ with gb := w'.heap.size }, fun i hi => add14V_gb _ _ _ _ _ _ (hne i hi), rfl, ⟨fun _ => (hW.pre hn).alloc (hW.pre hn).size _, fun _ _ => Blk.new w' _ _, fun hx => ?_, fun hx => ?_, fun hx => ?_, fun _ => (by rw [listed_get hlt, if_neg (by decide)]; exact dep_listed ho hdep (by kernel_rfl)), fun hx => ?_⟩⟩
      · rw [e7, hn] at hx; cases hx
      · rw [e10] at hx; have := hW.c10 hx; rw [hn] at this; cases this
      · rw [e7, hn] at hx; cases hx
      · rw [e10] at hx; have := hW.c10 hx; rw [hn] at this; cases this
    · obtain ⟨o', ho', hop, hdst⟩ := add14_op7
      obtain rfl := same ho' rfl
      have e0 : a.eval (.tmp 63) = v := (hRI.get ho hdep (i := 4) (d := 63) (by kernel_rfl) rfl)
      have e1 : a.eval (.tmp 65) = .slice (some ⟨γ.gb, 0, none⟩) 1 1 := (hRI.get ho hdep (i := 6) (d := 65) (by kernel_rfl) rfl)
      have l6 : listed.getD 6 false = true := dep_listed ho hdep (by kernel_rfl)
      have hp := hW.pre hlf
      have hbs := hW.bs l6 hlf
      have l4 : listed.getD 4 false = true := dep_listed ho hdep (by kernel_rfl)
      have n10 : listed.getD 10 false = false := by
        cases hx : listed.getD 10 false with
        | false => rfl
        | true => have := hW.c10 hx; rw [hlf] at this; cases this
      have e10 : (listed.setIfInBounds 7 true).getD 10 false = false := by rw [listed_get hlt, if_neg (by decide)]; exact n10
      have e7 : (listed.setIfInBounds 7 true).getD 7 false = true := by rw [listed_get hlt, if_pos rfl]
      refine wp_append_member _ _ hop base v xs e0 (row_below hrow hp) γ.gb 1 y e1 hbs hxs (Nat.le_trans hbase hp.size) (fun v' w2 h1 h2 h3 => ⟨{ γ with va := v' }, fun i hi => add14V_va _ _ _ _ _ _ (hne i hi), rfl, ⟨fun hx => ?_, fun _ hx => ?_, fun _ _ => ⟨w', hp, h1, h2, h3⟩, fun hx => ?_, fun _ => ⟨?_, ?_⟩, fun _ => ?_, fun hx => ?_⟩⟩)
      · rw [e7] at hx; cases hx
      · rw [e7] at hx; cases hx
      · rw [e10] at hx; cases hx
      · rw [listed_get hlt, if_neg (by decide)]; exact l4
      · rw [listed_get hlt, if_neg (by decide)]; exact l6
      · rw [listed_get hlt, if_neg (by decide)]; exact hW.c6 l6
      · rw [e10] at hx; cases hx
    · obtain ⟨o', ho', hop, hdst⟩ := add14_op8
      obtain rfl := same ho' rfl
      have e0 : a.eval (.tmp 59) = .pointer (some ⟨r, 0, none⟩) := (hRI.get ho hdep (i := 0) (d := 59) (by kernel_rfl) rfl)
      refine wp_run _ ?_ ⟨γ, fun _ _ => rfl, rfl, hW.keep hlt (by decide)⟩
      generalize a.eval = ev at e0 ⊢
      simp [go_sem, execOp, hop, e0, add14V]
    · obtain ⟨o', ho', hop, hdst⟩ := add14_op9
      obtain rfl := same ho' rfl
      have e0 : a.eval (.tmp 67) = .pointer (some ⟨r, 0, none⟩) := (hRI.get ho hdep (i := 8) (d := 67) (by kernel_rfl) rfl)
      refine wp_run _ ?_ ⟨γ, fun _ _ => rfl, rfl, hW.keep hlt (by decide)⟩
      generalize a.eval = ev at e0 ⊢
      simp [go_sem, execOp, hop, e0, add14V]
    · obtain ⟨o', ho', hop, hdst⟩ := add14_op10
      obtain rfl := same ho' rfl
      have e0 : a.eval (.tmp 68) = .pointer (some ⟨r, 3, none⟩) := (hRI.get ho hdep (i := 9) (d := 68) (by kernel_rfl) rfl)
      have e1 : a.eval (.tmp 66) = γ.va := (hRI.get ho hdep (i := 7) (d := 66) (by kernel_rfl) rfl)
      have l7 : listed.getD 7 false = true := dep_listed ho hdep (by kernel_rfl)
      have hA := hW.ap l7 hlf
      obtain ⟨wA, g1, g2, g3, g4⟩ := hA
      have hb2 : Blk w' r 70 cs := (g3.block r (hbr.below g1 hbr.lt).lt (fun e => hrv e.symm)).trans (hbr.below g1 hbr.lt)
      have c0 := hb2.cell 3
      rw [hc3] at c0
      have f0 := hb2.frozen 3
      obtain ⟨pv, lv, cv, hva⟩ : ∃ p l c, γ.va = .slice p l c := by
        rcases g2.2 with ⟨h, _⟩ | ⟨_, _, _, h, _⟩
        · exact ⟨_, _, _, h⟩
        · exact ⟨_, _, _, h⟩
      have hr : (execOp a.eval o').run Tryz.prog w' = .ok .skip (w'.setCell ⟨r, 3, none⟩ γ.va) := by
        rw [hva] at e1 ⊢
        generalize a.eval = ev at e0 e1 ⊢
        simp [go_sem, execOp, hop, e0, e1, c0, f0, Result.andThen]
      unfold Oper.wp
      rw [hr, Oper.upon_skip]
      have e7 : (listed.setIfInBounds 10 true).getD 7 false = true := by rw [listed_get hlt, if_neg (by decide)]; exact l7
      have e10 : (listed.setIfInBounds 10 true).getD 10 false = true := by rw [listed_get hlt, if_pos rfl]
      refine ⟨γ, fun _ _ => rfl, rfl, ⟨fun hx => ?_, fun _ hx => ?_, fun _ hx => ?_, fun _ => ⟨w', ⟨wA, g1, g2, g3, g4⟩, rfl⟩, fun _ => ?_, fun hx => ?_, fun _ => e7⟩⟩
      · rw [e7] at hx; cases hx
      · rw [e7] at hx; cases hx
      · rw [e10] at hx; cases hx
      · obtain ⟨k4, k6⟩ := hW.c7 l7
        exact ⟨by rw [listed_get hlt, if_neg (by decide)]; exact k4, by rw [listed_get hlt, if_neg (by decide)]; exact k6⟩
      · rw [listed_get hlt, if_neg (by decide)] at hx ⊢; exact hW.c6 hx
  · intro γ listed a w' hRI hall
    have all : ∀ j, j < 11 → listed.getD j false = true := fun j hj => hall j (by rw [add14_size]; exact hj)
    obtain ⟨wB, hA, rfl⟩ := hRI.wd.st (all 10 (by omega))
    rw [done_putAllG 73 add14_apart hsz hRI hall, add14_size]
    simp only [putAll, add14_dst0, add14_dst1, add14_dst2, add14_dst3, add14_dst4, add14_dst5, add14_dst6, add14_dst7, add14_dst8, add14_dst9, add14_dst10, put_none, add14V]
    exact hQ γ wB hA
  · exact ⟨fun _ => (Below.refl _ _).drew, fun hx => (by rw [no] at hx; cases hx), fun hx => (by rw [no] at hx; cases hx), fun hx => (by rw [no] at hx; cases hx), fun hx => (by rw [no] at hx; cases hx), fun hx => (by rw [no] at hx; cases hx), fun hx => (by rw [no] at hx; cases hx)⟩
end Go.Proofs.YtdjedimjhogdoaaGreatDoor.Mem
end
section
namespace Go.Proofs.YtdjedimjhogdoaaGreatDoor.Mem
open Go.ChangeShapes Go.WideShapes Go.ChangeAt Go.RowKit Go.Proofs.YtdjedimjhogdoaaGreatDoor.Base Go.Proofs.YtdjedimjhogdoaaGreatDoor.Byt Go.Proofs.YtdjedimjhogdoaaGreatDoor.Txt Go.Proofs.YtdjedimjhogdoaaGreatDoor.Bk Go.Proofs.YtdjedimjhogdoaaGreatDoor.Mk Go.Proofs.YtdjedimjhogdoaaGreatDoor.Block Go.Proofs.YtdjedimjhogdoaaGreatDoor.Hp Go.Proofs.YtdjedimjhogdoaaGreatDoor.Head Go.Proofs.YtdjedimjhogdoaaGreatDoor.Attr Go.Proofs.YtdjedimjhogdoaaGreatDoor.Rec Go.Proofs.YtdjedimjhogdoaaGreatDoor.Path Go.Lib Go.Shelf
set_option linter.unusedVariables false
set_option maxRecDepth 100000
section
variable {w0 w w' : World} {K : RK} {a : Nat} {s : RS} {mb : Option Nat} {v : Value} {xs : List MP} {q : Option Addr} {n c : Nat}
set_option maxHeartbeats 2000000 in
theorem add_full (hr : Rd w0 w K a s mb v xs q n c) (h : HeadV) (hf : s.out.length = 4096) :
    Calls Tryz.prog 54 #[.pointer (some ⟨K.r, 0, none⟩), .agg (headC h)] w fun e w' => e = .returned (.int .i64 10) ∧ Below w0.heap.size w0 w' := by
  obtain ⟨vp, vc, hv, _, _, _⟩ := mems_own hr.row hr.bodies
  subst hv
  have hxl : xs.length = s.out.length := by have := congrArg List.length hr.out; simpa using this
  obtain ⟨W1, hW1⟩ : ∃ W1, w.alloc (.cells (headC h) 57) = W1 := ⟨_, rfl⟩
  have hB1 : Below w.heap.size w W1 := by rw [← hW1]; exact (Below.refl _ w).alloc (Nat.le_refl _) _
  have hX1 : Blk W1 w.heap.size 57 (headC h) := by rw [← hW1]; exact Blk.new w _ _
  have hR1 := hr.below hB1
  have x3 := hR1.c3
  have HR := Lib.hid hr
  have HB1 := Lib.hid hB1
  have HX1 := Lib.hid hX1
  have HR1 := Lib.hid hR1
  have HXN := Lib.hid hxl
  clear hr hB1 hX1 hR1
  rw [hf] at hxl
  rw [hxl] at x3
  clear hxl
  go_enter Tryz.func54, Tryz.ntmps54
  go_upto_region 1 with fail
  clear hW1
  go_wp2
  go_ret
  exact ⟨rfl, HR1.out.bel⟩
set_option maxHeartbeats 2000000 in
theorem add_odd (hr : Rd w0 w K a s mb v xs q n c) (h : HeadV) (hf : s.out.length < 4096) (hk : knownD h.kind = false) :
    Calls Tryz.prog 54 #[.pointer (some ⟨K.r, 0, none⟩), .agg (headC h)] w fun e w' => e = .returned (.int .i64 8) ∧ Below w0.heap.size w0 w' := by
  obtain ⟨vp, vc, hv, _, _, _⟩ := mems_own hr.row hr.bodies
  subst hv
  have hxl : xs.length = s.out.length := by have := congrArg List.length hr.out; simpa using this
  obtain ⟨W1, hW1⟩ : ∃ W1, w.alloc (.cells (headC h) 57) = W1 := ⟨_, rfl⟩
  have hB1 : Below w.heap.size w W1 := by rw [← hW1]; exact (Below.refl _ w).alloc (Nat.le_refl _) _
  have hX1 : Blk W1 w.heap.size 57 (headC h) := by rw [← hW1]; exact Blk.new w _ _
  have hR1 := hr.below hB1
  have x3 := hR1.c3
  have HR := Lib.hid hr
  have HB1 := Lib.hid hB1
  have HX1 := Lib.hid hX1
  have HR1 := Lib.hid hR1
  have HXN := Lib.hid hxl
  clear hr hB1 hX1 hR1
  have hnl : ((xs.length : Int) == 4096) = false := by rw [hxl]; simpa using (by omega : ¬ (s.out.length : Int) = 4096)
  clear hxl
  have k2 := HX1.out.cell 2
  simp only [headC, List.getElem?_toArray, List.getElem?_cons_zero, List.getElem?_cons_succ] at k2
  have hkn := known_any h.kind W1
  rw [hk] at hkn
  go_enter Tryz.func54, Tryz.ntmps54
  go_upto_region 1 with fail
  clear hW1
  go_wp2_with fail
  refine hkn.mono ?_
  rintro e w1 ⟨rfl, rfl⟩
  go_wp2
  go_ret
  exact ⟨rfl, HR1.out.bel⟩
set_option maxHeartbeats 4000000 in
theorem add_noapply (hr : Rd w0 w K a s mb v xs q n c) (h : HeadV) (hf : s.out.length < 4096) (hk : knownD h.kind = true) (hae : (applyD (lastD s.glob) s.own (renD h s)).2 ≠ 0) :
    Calls Tryz.prog 54 #[.pointer (some ⟨K.r, 0, none⟩), .agg (headC h)] w fun e w' => e = .returned (.int .i64 (applyD (lastD s.glob) s.own (renD h s)).2) ∧ Below w0.heap.size w0 w' := by
  obtain ⟨vp, vc, hv, _, _, _⟩ := mems_own hr.row hr.bodies
  subst hv
  have hxl : xs.length = s.out.length := by have := congrArg List.length hr.out; simpa using this
  obtain ⟨W1, hW1⟩ : ∃ W1, w.alloc (.cells (headC h) 57) = W1 := ⟨_, rfl⟩
  have hB1 : Below w.heap.size w W1 := by rw [← hW1]; exact (Below.refl _ w).alloc (Nat.le_refl _) _
  have hX1 : Blk W1 w.heap.size 57 (headC h) := by rw [← hW1]; exact Blk.new w _ _
  have hR1 := hr.below hB1
  have x3 := hR1.c3
  have HR := Lib.hid hr
  have HB1 := Lib.hid hB1
  have HX1 := Lib.hid hX1
  have HR1 := Lib.hid hR1
  have HXN := Lib.hid hxl
  clear hr hB1 hX1 hR1
  have hnl : ((xs.length : Int) == 4096) = false := by rw [hxl]; simpa using (by omega : ¬ (s.out.length : Int) = 4096)
  clear hxl
  have k2 := HX1.out.cell 2
  simp only [headC, List.getElem?_toArray, List.getElem?_cons_zero, List.getElem?_cons_succ] at k2
  have hkn := known_any h.kind W1
  rw [hk] at hkn
  obtain ⟨⟨oq, on, oc⟩, hov⟩ : ∃ x, ownV s q n c = x := ⟨_, rfl⟩
  obtain ⟨⟨ah, ae⟩, hap⟩ : ∃ x, applyD (lastD s.glob) s.own (renD h s) = x := ⟨_, rfl⟩
  have HSS : Hid (∀ wi, Rd w0 wi K a s mb (.slice vp xs.length vc) xs q n c → ((wi.cell? ⟨K.r, 1, none⟩ = some (.pointer (some ⟨K.gs, 0, none⟩)) ∧ wi.cell? ⟨K.r, 2, none⟩ = some (.map (some K.mw))) ∧ (Instr.lookup 68 (.map (some K.mw)) (.int .u8 120) false).run Tryz.prog wi = .ok (.agg #[.string ⟨#[]⟩, .slice oq on oc]) wi)) :=
    Lib.hid (fun wi hi => ⟨⟨hi.c1, hi.c2⟩, look120 hi.map hov⟩)
  have HAP : Hid (∀ wi, Rd w0 wi K a s mb (.slice vp xs.length vc) xs q n c → Calls Tryz.prog 83 #[.pointer (some ⟨K.gs, 0, none⟩), .agg (headC (renD h s)), .slice oq on oc] wi fun e w' => e = .returned (.tuple #[.agg (headC ah), .int .i64 ae]) ∧ Below wi.heap.size wi w') :=
    Lib.hid (fun wi hi => by have := apply_rd h hi hov (renD h s); rw [hap] at this; exact this)
  have HPL := Lib.hid hap
  clear hov hap
  rw [HPL.out] at hae ⊢
  simp only at hae ⊢
  have hnz : (ae != 0) = true := by simpa using hae
  clear hae
  go_enter Tryz.func54, Tryz.ntmps54
  go_upto_region 1 with fail
  clear hW1
  go_wp2_with fail
  refine hkn.mono ?_
  rintro e w1 ⟨rfl, rfl⟩
  go_upto_region 5 with fail
  refine wp_region_any (by kernel_rfl) (add5_region (w := w) (w1 := W1) K.r K.gs K.mw w.heap.size h (renD h s) oq on oc ah ae (show 73 ≤ 73 from Nat.le_refl 73) rfl rfl (Nat.le_refl _) HB1.out HX1.out (fun wi hb => HSS.out wi (HR.out.below hb)) (fun wi hb => renamed_any h (HR.out.below hb)) (fun wi hb => HAP.out wi (HR.out.below hb)) ?_)
  intro W5 hb5 hx5
  have HB5 := Lib.hid hb5
  have HX5 := Lib.hid hx5
  have HR5 := Lib.hid (HR.out.below hb5)
  clear hb5 hx5 k2 x3
  simp only [Exit.then]
  apply_assumption
  go_wp2
  go_ret
  exact ⟨rfl, HR5.out.bel⟩
set_option maxHeartbeats 4000000 in
theorem add_nofrom (hr : Rd w0 w K a s mb v xs q n c) (h : HeadV) (hf : s.out.length < 4096) (hk : knownD h.kind = true) (hN : Need w0) (h0 : 0 ≤ h.size) (h1 : h.name.length ≤ 1048576) (h2 : h.link.length ≤ 1048576) (ah : HeadV) (hae : applyD (lastD s.glob) s.own (renD h s) = (ah, 0)) (hfe0 : (fromD ah).2 ≠ 0) :
    Calls Tryz.prog 54 #[.pointer (some ⟨K.r, 0, none⟩), .agg (headC h)] w fun e w' => e = .returned (.int .i64 (fromD ah).2) ∧ Below w0.heap.size w0 w' := by
  obtain ⟨vp, vc, hv, _, _, _⟩ := mems_own hr.row hr.bodies
  subst hv
  have hxl : xs.length = s.out.length := by have := congrArg List.length hr.out; simpa using this
  obtain ⟨W1, hW1⟩ : ∃ W1, w.alloc (.cells (headC h) 57) = W1 := ⟨_, rfl⟩
  have hB1 : Below w.heap.size w W1 := by rw [← hW1]; exact (Below.refl _ w).alloc (Nat.le_refl _) _
  have hX1 : Blk W1 w.heap.size 57 (headC h) := by rw [← hW1]; exact Blk.new w _ _
  have hR1 := hr.below hB1
  have x3 := hR1.c3
  have HR := Lib.hid hr
  have HB1 := Lib.hid hB1
  have HX1 := Lib.hid hX1
  have HR1 := Lib.hid hR1
  have HXN := Lib.hid hxl
  clear hr hB1 hX1 hR1
  have hnl : ((xs.length : Int) == 4096) = false := by rw [hxl]; simpa using (by omega : ¬ (s.out.length : Int) = 4096)
  clear hxl
  have k2 := HX1.out.cell 2
  simp only [headC, List.getElem?_toArray, List.getElem?_cons_zero, List.getElem?_cons_succ] at k2
  have hkn := known_any h.kind W1
  rw [hk] at hkn
  obtain ⟨⟨oq, on, oc⟩, hov⟩ : ∃ x, ownV s q n c = x := ⟨_, rfl⟩
  have HSS : Hid (∀ wi, Rd w0 wi K a s mb (.slice vp xs.length vc) xs q n c → ((wi.cell? ⟨K.r, 1, none⟩ = some (.pointer (some ⟨K.gs, 0, none⟩)) ∧ wi.cell? ⟨K.r, 2, none⟩ = some (.map (some K.mw))) ∧ (Instr.lookup 68 (.map (some K.mw)) (.int .u8 120) false).run Tryz.prog wi = .ok (.agg #[.string ⟨#[]⟩, .slice oq on oc]) wi)) :=
    Lib.hid (fun wi hi => ⟨⟨hi.c1, hi.c2⟩, look120 hi.map hov⟩)
  have HAP : Hid (∀ wi, Rd w0 wi K a s mb (.slice vp xs.length vc) xs q n c → Calls Tryz.prog 83 #[.pointer (some ⟨K.gs, 0, none⟩), .agg (headC (renD h s)), .slice oq on oc] wi fun e w' => e = .returned (.tuple #[.agg (headC ah), .int .i64 0]) ∧ Below wi.heap.size wi w') :=
    Lib.hid (fun wi hi => by have := apply_rd h hi hov (renD h s); rw [hae] at this; exact this)
  have HPL := Lib.hid hae
  clear hov hae
  have HBD : Hid (0 ≤ ah.size ∧ ah.name.length ≤ 1048576 ∧ ah.link.length ≤ 1048576) := Lib.hid (by
    have := apply_bd h HR.out h0 h1 h2
    rw [HPL.out] at this
    exact this)
  have HND := Lib.hid hN
  clear hN h0 h1 h2
  obtain ⟨⟨fm, fe⟩, hfd⟩ : ∃ x, fromD ah = x := ⟨_, rfl⟩
  have hfb : fm.body = [] := by have := fromD_body ah; rw [hfd] at this; exact this
  have HFR : Hid (∀ wi, Tabs wi → Calls Tryz.prog 41 #[.agg (headC ah)] wi fun e w' => e = .returned (.tuple #[.agg #[.string (str fm.path), .string (str fm.target), .int .u8 (fm.kind.toNat : Int), .int .i64 fm.mode, .int .i64 fm.uid, .int .i64 fm.gid, .int .i64 fm.time, .slice none 0 0], .int .i64 fe]) ∧ Below wi.heap.size wi w') :=
    Lib.hid (fun wi hT => by
      obtain ⟨_, b1, b2⟩ := HBD.out
      have := fromHead_any ah wi (by omega) (by omega) hT
      rw [hfd] at this
      unfold memC at this
      simp only [hfb, List.length_nil] at this
      exact this)
  have HFD := Lib.hid hfd
  have HFB := Lib.hid hfb
  clear hfd hfb
  rw [HFD.out] at hfe0 ⊢
  simp only at hfe0 ⊢
  have hnz : (fe != 0) = true := by simpa using hfe0
  clear hfe0
  go_enter Tryz.func54, Tryz.ntmps54
  go_upto_region 1 with fail
  clear hW1
  go_wp2_with fail
  refine hkn.mono ?_
  rintro e w1 ⟨rfl, rfl⟩
  go_upto_region 5 with fail
  refine wp_region_any (by kernel_rfl) (add5_region (w := w) (w1 := W1) K.r K.gs K.mw w.heap.size h (renD h s) oq on oc ah 0 (show 73 ≤ 73 from Nat.le_refl 73) rfl rfl (Nat.le_refl _) HB1.out HX1.out (fun wi hb => HSS.out wi (HR.out.below hb)) (fun wi hb => renamed_any h (HR.out.below hb)) (fun wi hb => HAP.out wi (HR.out.below hb)) ?_)
  intro W5 hb5 hx5
  have HB5 := Lib.hid hb5
  have HX5 := Lib.hid hx5
  have HR5 := Lib.hid (HR.out.below hb5)
  clear hb5 hx5 k2 x3
  simp only [Exit.then]
  apply_assumption
  have b9 := HX5.out
  have c0 := b9.cell 0
  have c1 := b9.cell 1
  have c2 := b9.cell 2
  have c3 := b9.cell 3
  have c4 := b9.cell 4
  have c5 := b9.cell 5
  have c6 := b9.cell 6
  have c7 := b9.cell 7
  have c8 := b9.cell 8
  simp only [headC, List.getElem?_toArray, List.getElem?_cons_zero, List.getElem?_cons_succ] at c0 c1 c2 c3 c4 c5 c6 c7 c8
  clear b9
  go_wp2_with fail
  refine (HFR.out _ (HR5.out.need HND.out).tabs).mono ?_
  rintro e w6 ⟨rfl, hb6⟩
  have hb7 := hb6.alloc hb6.size (.cells #[.string (str fm.path), .string (str fm.target), .int .u8 (fm.kind.toNat : Int), .int .i64 fm.mode, .int .i64 fm.uid, .int .i64 fm.gid, .int .i64 fm.time, .slice none 0 0] 37)
  have hm7 := Blk.new w6 37 #[.string (str fm.path), .string (str fm.target), .int .u8 (fm.kind.toNat : Int), .int .i64 fm.mode, .int .i64 fm.uid, .int .i64 fm.gid, .int .i64 fm.time, .slice none 0 0]
  have hw6 : w.heap.size < w6.heap.size := Nat.lt_of_lt_of_le HX5.out.lt hb6.size
  have HX7 := Lib.hid (HX5.out.below hb7 HX5.out.lt)
  have HR7 := Lib.hid (HR5.out.below hb7)
  have HM7 := Lib.hid hm7
  have HW6 := Lib.hid hw6
  clear hb6 hb7 hm7 hw6 c0 c1 c2 c3 c4 c5 c6 c7 c8
  go_wp2
  go_ret
  exact ⟨rfl, HR7.out.bel⟩
end
end Go.Proofs.YtdjedimjhogdoaaGreatDoor.Mem
end
section
namespace Go.Proofs.YtdjedimjhogdoaaGreatDoor.Mem
open Go.ChangeShapes Go.WideShapes Go.ChangeAt Go.RowKit Go.Proofs.YtdjedimjhogdoaaGreatDoor.Base Go.Proofs.YtdjedimjhogdoaaGreatDoor.Byt Go.Proofs.YtdjedimjhogdoaaGreatDoor.Txt Go.Proofs.YtdjedimjhogdoaaGreatDoor.Bk Go.Proofs.YtdjedimjhogdoaaGreatDoor.Mk Go.Proofs.YtdjedimjhogdoaaGreatDoor.Block Go.Proofs.YtdjedimjhogdoaaGreatDoor.Hp Go.Proofs.YtdjedimjhogdoaaGreatDoor.Head Go.Proofs.YtdjedimjhogdoaaGreatDoor.Attr Go.Proofs.YtdjedimjhogdoaaGreatDoor.Rec Go.Proofs.YtdjedimjhogdoaaGreatDoor.Path Go.Lib Go.Shelf
set_option linter.unusedVariables false
set_option maxRecDepth 100000
section
variable {w0 w w' : World} {K : RK} {a : Nat} {s : RS} {mb : Option Nat} {v : Value} {xs : List MP} {q : Option Addr} {n c : Nat}
theorem Rd.fresh (h : Rd w0 w K a s mb v xs q n c) {b : Nat} (hb : w.heap.size ≤ b) : ¬ Ot K mb v b ∧ b ≠ K.g := by
  obtain ⟨t, hs⟩ := h.src
  have h1 := h.blk.lt
  have h2 := hs.lt
  have h3 := h.st.lt
  have h4 := h.map.lt
  refine ⟨fun e => ?_, by omega⟩
  rcases e with e | e | e | e | e
  · omega
  · omega
  · omega
  · have := h.st.ltB e; omega
  · have := (h.row.lt b e).2; omega
/-- what is written behind the reader's own blocks leaves it as it is -/
theorem Rd.foreign {wo : World} {a0 : Nat} (ho : Rd w0 wo K a0 s mb v xs q n c) (h : Rd w0 w K a s mb v xs q n c) (hk : Kept (fun k => wo.heap.size ≤ k) w w') : Rd w0 w' K a s mb v xs q n c := by
  obtain ⟨t0, hs0⟩ := ho.src
  obtain ⟨t, hs⟩ := h.src
  have l1 := ho.blk.lt
  have l2 := hs0.lt
  have l3 := ho.st.lt
  have l4 := ho.map.lt
  have l5 := ho.bel.size
  exact {
    bel := h.bel.trans (hk.below h.bel.size (fun k hk => Nat.le_trans l5 hk))
    blk := h.blk.keptS hk (by omega)
    src := ⟨t, hs.kept hk (by omega) (fun h0 y hy e => by have := bat_lt hs0.bat h0 hy; omega) (fun h0 y hy e => by have := iat_lt hs0.iat h0 hy; omega)⟩
    off := h.off
    st := h.st.kept hk (fun k hk' e => by
      rcases hk' with rfl | hk'
      · omega
      · have := ho.st.ltB hk'; omega)
    map := h.map.kept hk (by omega)
    own := recsAt_kept h.own hk (fun h0 y hy e => by
      obtain ⟨b', o, hq, hlt, _⟩ := ho.own.2 h0
      rw [hy] at hq
      cases hq
      have e : wo.heap.size ≤ b' := e
      omega)
    own0 := h.own0
    row := ownsRow_kept h.row hk (fun k hk' e => by have := (ho.row.lt k hk').2; omega)
    out := h.out
    bodies := fun x hx => (h.bodies x hx).kept hk (fun h0 y hy e => by have := bat_lt (ho.bodies x hx).bat h0 hy; omega)
    apart := h.apart
    sp := h.sp
    sq := h.sq
    ne := h.ne
    neB := h.neB
    neV := h.neV
    base := h.base
    many := h.many
    gl := h.gl
    ol := h.ol
    nl := h.nl
    ll := h.ll }
set_option maxHeartbeats 4000000 in
theorem add_short (hr : Rd w0 w K (a + 512) s mb v xs q n c) (h : HeadV) (hf : s.out.length < 4096) (hk : knownD h.kind = true) (hN : Need w0) (h0 : 0 ≤ h.size) (h1 : h.name.length ≤ 1048576) (h2 : h.link.length ≤ 1048576) (ah : HeadV) (hae : applyD (lastD s.glob) s.own (renD h s) = (ah, 0)) (hfe0 : (fromD ah).2 = 0) (k : Nat) (hsz : ah.size = (k : Int)) (hkl : k ≤ 1048576) (hl : K.S.n < a + 512 + padN k) :
    Calls Tryz.prog 54 #[.pointer (some ⟨K.r, 0, none⟩), .agg (headC h)] w fun e w' => e = .returned (.int .i64 2) ∧ Below w0.heap.size w0 w' := by
  obtain ⟨vp, vc, hv, _, _, _⟩ := mems_own hr.row hr.bodies
  subst hv
  have hxl : xs.length = s.out.length := by have := congrArg List.length hr.out; simpa using this
  obtain ⟨W1, hW1⟩ : ∃ W1, w.alloc (.cells (headC h) 57) = W1 := ⟨_, rfl⟩
  have hB1 : Below w.heap.size w W1 := by rw [← hW1]; exact (Below.refl _ w).alloc (Nat.le_refl _) _
  have hX1 : Blk W1 w.heap.size 57 (headC h) := by rw [← hW1]; exact Blk.new w _ _
  have hR1 := hr.below hB1
  have x3 := hR1.c3
  have HR := Lib.hid hr
  have HB1 := Lib.hid hB1
  have HX1 := Lib.hid hX1
  have HR1 := Lib.hid hR1
  have HXN := Lib.hid hxl
  clear hr hB1 hX1 hR1
  have hnl : ((xs.length : Int) == 4096) = false := by rw [hxl]; simpa using (by omega : ¬ (s.out.length : Int) = 4096)
  clear hxl
  have k2 := HX1.out.cell 2
  simp only [headC, List.getElem?_toArray, List.getElem?_cons_zero, List.getElem?_cons_succ] at k2
  have hkn := known_any h.kind W1
  rw [hk] at hkn
  obtain ⟨⟨oq, on, oc⟩, hov⟩ : ∃ x, ownV s q n c = x := ⟨_, rfl⟩
  have HSS : Hid (∀ wi, Rd w0 wi K (a + 512) s mb (.slice vp xs.length vc) xs q n c → ((wi.cell? ⟨K.r, 1, none⟩ = some (.pointer (some ⟨K.gs, 0, none⟩)) ∧ wi.cell? ⟨K.r, 2, none⟩ = some (.map (some K.mw))) ∧ (Instr.lookup 68 (.map (some K.mw)) (.int .u8 120) false).run Tryz.prog wi = .ok (.agg #[.string ⟨#[]⟩, .slice oq on oc]) wi)) :=
    Lib.hid (fun wi hi => ⟨⟨hi.c1, hi.c2⟩, look120 hi.map hov⟩)
  have HAP : Hid (∀ wi, Rd w0 wi K (a + 512) s mb (.slice vp xs.length vc) xs q n c → Calls Tryz.prog 83 #[.pointer (some ⟨K.gs, 0, none⟩), .agg (headC (renD h s)), .slice oq on oc] wi fun e w' => e = .returned (.tuple #[.agg (headC ah), .int .i64 0]) ∧ Below wi.heap.size wi w') :=
    Lib.hid (fun wi hi => by have := apply_rd h hi hov (renD h s); rw [hae] at this; exact this)
  have HPL := Lib.hid hae
  clear hov hae
  have HBD : Hid (0 ≤ ah.size ∧ ah.name.length ≤ 1048576 ∧ ah.link.length ≤ 1048576) := Lib.hid (by
    have := apply_bd h HR.out h0 h1 h2
    rw [HPL.out] at this
    exact this)
  have HND := Lib.hid hN
  clear hN h0 h1 h2
  obtain ⟨⟨fm, fe⟩, hfd⟩ : ∃ x, fromD ah = x := ⟨_, rfl⟩
  have hfb : fm.body = [] := by have := fromD_body ah; rw [hfd] at this; exact this
  have HFR : Hid (∀ wi, Tabs wi → Calls Tryz.prog 41 #[.agg (headC ah)] wi fun e w' => e = .returned (.tuple #[.agg #[.string (str fm.path), .string (str fm.target), .int .u8 (fm.kind.toNat : Int), .int .i64 fm.mode, .int .i64 fm.uid, .int .i64 fm.gid, .int .i64 fm.time, .slice none 0 0], .int .i64 fe]) ∧ Below wi.heap.size wi w') :=
    Lib.hid (fun wi hT => by
      obtain ⟨_, b1, b2⟩ := HBD.out
      have := fromHead_any ah wi (by omega) (by omega) hT
      rw [hfd] at this
      unfold memC at this
      simp only [hfb, List.length_nil] at this
      exact this)
  have HFD := Lib.hid hfd
  have HFB := Lib.hid hfb
  clear hfd hfb
  rw [HFD.out] at hfe0
  simp only at hfe0
  subst hfe0
  have HBR := Lib.hid hl
  have HKL := Lib.hid hkl
  have HSZ := Lib.hid hsz
  clear hl hkl hsz
  go_enter Tryz.func54, Tryz.ntmps54
  go_upto_region 1 with fail
  clear hW1
  go_wp2_with fail
  refine hkn.mono ?_
  rintro e w1 ⟨rfl, rfl⟩
  go_upto_region 5 with fail
  refine wp_region_any (by kernel_rfl) (add5_region (w := w) (w1 := W1) K.r K.gs K.mw w.heap.size h (renD h s) oq on oc ah 0 (show 73 ≤ 73 from Nat.le_refl 73) rfl rfl (Nat.le_refl _) HB1.out HX1.out (fun wi hb => HSS.out wi (HR.out.below hb)) (fun wi hb => renamed_any h (HR.out.below hb)) (fun wi hb => HAP.out wi (HR.out.below hb)) ?_)
  intro W5 hb5 hx5
  have HB5 := Lib.hid hb5
  have HX5 := Lib.hid hx5
  have HR5 := Lib.hid (HR.out.below hb5)
  clear hb5 hx5 k2 x3
  simp only [Exit.then]
  apply_assumption
  have b9 := HX5.out
  have c0 := b9.cell 0
  have c1 := b9.cell 1
  have c2 := b9.cell 2
  have c3 := b9.cell 3
  have c4 := b9.cell 4
  have c5 := b9.cell 5
  have c6 := b9.cell 6
  have c7 := b9.cell 7
  have c8 := b9.cell 8
  simp only [headC, List.getElem?_toArray, List.getElem?_cons_zero, List.getElem?_cons_succ] at c0 c1 c2 c3 c4 c5 c6 c7 c8
  clear b9
  go_wp2_with fail
  refine (HFR.out _ (HR5.out.need HND.out).tabs).mono ?_
  rintro e w6 ⟨rfl, hb6⟩
  have hb7 := hb6.alloc hb6.size (.cells #[.string (str fm.path), .string (str fm.target), .int .u8 (fm.kind.toNat : Int), .int .i64 fm.mode, .int .i64 fm.uid, .int .i64 fm.gid, .int .i64 fm.time, .slice none 0 0] 37)
  have hm7 := Blk.new w6 37 #[.string (str fm.path), .string (str fm.target), .int .u8 (fm.kind.toNat : Int), .int .i64 fm.mode, .int .i64 fm.uid, .int .i64 fm.gid, .int .i64 fm.time, .slice none 0 0]
  have hw6 : w.heap.size < w6.heap.size := Nat.lt_of_lt_of_le HX5.out.lt hb6.size
  have HX7 := Lib.hid (HX5.out.below hb7 HX5.out.lt)
  have HR7 := Lib.hid (HR5.out.below hb7)
  have HM7 := Lib.hid hm7
  have HW6 := Lib.hid hw6
  clear hb6 hb7 hm7 hw6 c0 c1 c2 c3 c4 c5 c6 c7 c8
  obtain ⟨W7, hW7⟩ : ∃ W7, w6.alloc (.cells #[.string (str fm.path), .string (str fm.target), .int .u8 (fm.kind.toNat : Int), .int .i64 fm.mode, .int .i64 fm.uid, .int .i64 fm.gid, .int .i64 fm.time, .slice none 0 0] 37) = W7 := ⟨_, rfl⟩
  rw [hW7] at HX7 HR7 HM7
  have HW7 := Lib.hid hW7
  clear hW7
  have x0 := HR7.out.c0
  have z7 := HX7.out.cell 7
  simp only [headC, List.getElem?_toArray, List.getElem?_cons_zero, List.getElem?_cons_succ, HSZ.out] at z7
  have hRd := HR7.out.idle ((Kept.refl noneB W7).drew)
  obtain ⟨t, hs⟩ := hRd.src
  have hne : w.heap.size ≠ K.g ∧ w6.heap.size ≠ K.g := by
    obtain ⟨t', hs'⟩ := HR.out.src
    have := hs'.lt
    have := HW6.out
    exact ⟨by omega, by omega⟩
  have HRD := Lib.hid hRd
  have HNE := Lib.hid hne
  have hB := body_no W7.drew K.g (a + 512) t K.S hs hRd.off k HKL.out HBR.out
  clear hs hRd hne
  go_upto_region 11 with fail
  rw [HW7.out]
  go_region_held_law (fun w' => w'.cell? ⟨K.r, 0, none⟩ = some (.pointer (some ⟨K.g, 0, none⟩)) ∧ w'.cell? ⟨w.heap.size, 7, none⟩ = some (.int .i64 (k : Int))) (first | exact ⟨x0, z7⟩ | exact hS8 | exact hS9)
    (first
      | (go_at_call 79
         refine hB.mono ?_
         rintro e w8 ⟨t', rfl, h4, h5⟩
         have H8 := Lib.hid (HRD.out.moved h5 ⟨t', h4⟩)
         have HX8 : Hid (Blk w8 w.heap.size 57 (headC ah)) := Lib.hid ((HX7.out.drew).keptS h5 HNE.out.1)
         have HM8 : Hid (Blk w8 w6.heap.size 37 #[.string (str fm.path), .string (str fm.target), .int .u8 (fm.kind.toNat : Int), .int .i64 fm.mode, .int .i64 fm.uid, .int .i64 fm.gid, .int .i64 fm.time, .slice none 0 0]) := Lib.hid ((HM7.out.drew).keptS h5 HNE.out.2)
         have HB8 := Lib.hid h5
         have hS8 : w8.cell? ⟨K.r, 0, none⟩ = some (.pointer (some ⟨K.g, 0, none⟩)) ∧ w8.cell? ⟨w.heap.size, 7, none⟩ = some (.int .i64 (k : Int)) := ⟨H8.out.c0, by have := HX8.out.cell 7; simp only [headC, List.getElem?_toArray, List.getElem?_cons_zero, List.getElem?_cons_succ, HSZ.out] at this; exact this⟩
         have hS9 : (w8.setCell ⟨w6.heap.size, 7, none⟩ (.slice none 0 0)).cell? ⟨K.r, 0, none⟩ = some (.pointer (some ⟨K.g, 0, none⟩)) ∧ (w8.setCell ⟨w6.heap.size, 7, none⟩ (.slice none 0 0)).cell? ⟨w.heap.size, 7, none⟩ = some (.int .i64 (k : Int)) :=
           ⟨(H8.out.blk.other (b' := w6.heap.size) (i := 7) (by have := HR.out.blk.lt; have := HW6.out; omega) _).cell 0, by have := (HX8.out.other (b' := w6.heap.size) (i := 7) (by have := HW6.out; omega) (.slice none 0 0)).cell 7; simp only [headC, List.getElem?_toArray, List.getElem?_cons_zero, List.getElem?_cons_succ, HSZ.out] at this; exact this⟩
         have m7 := HM8.out.cell 7
         have fm7 := HM8.out.frozen 7
         simp only [List.getElem?_toArray, List.getElem?_cons_zero, List.getElem?_cons_succ] at m7
         clear h4 h5))
  clear hB hS8 x0 z7
  go_wp2
  go_ret
  exact ⟨rfl, H8.out.bel.setCell (p := ⟨w6.heap.size, 7, none⟩) (Nat.le_trans HR.out.bel.size (Nat.le_of_lt HW6.out)) _⟩
set_option maxHeartbeats 8000000 in
theorem add_ok (hr : Rd w0 w K (a + 512) s mb v xs q n c) (h : HeadV) (hf : s.out.length < 4096) (hk : knownD h.kind = true) (hN : Need w0) (h0 : 0 ≤ h.size) (h1 : h.name.length ≤ 1048576) (h2 : h.link.length ≤ 1048576) (ah : HeadV) (hae : applyD (lastD s.glob) s.own (renD h s) = (ah, 0)) (hfe0 : (fromD ah).2 = 0) (k : Nat) (hsz : ah.size = (k : Int)) (hkl : k ≤ 1048576) (X : List UInt8) (hX : (K.S.bs.drop (a + 512)).take k = X) (hl : a + 512 + padN k ≤ K.S.n) :
    Calls Tryz.prog 54 #[.pointer (some ⟨K.r, 0, none⟩), .agg (headC h)] w fun e w' => e = .returned (.int .i64 0) ∧ Left w0 K (a + 512 + padN k) { s with out := s.out ++ [{ (fromD ah).1 with body := X }], own := [], name := none, link := none, hasX := false } w' := by
  have HXL : Hid (X.length = k) := Lib.hid (by
    obtain ⟨t, hs⟩ := hr.src
    have := padN_ge k
    have := hs.len
    rw [← hX, List.length_take, List.length_drop]; omega)
  obtain ⟨vp, vc, hv, _, _, _⟩ := mems_own hr.row hr.bodies
  subst hv
  have hxl : xs.length = s.out.length := by have := congrArg List.length hr.out; simpa using this
  obtain ⟨W1, hW1⟩ : ∃ W1, w.alloc (.cells (headC h) 57) = W1 := ⟨_, rfl⟩
  have hB1 : Below w.heap.size w W1 := by rw [← hW1]; exact (Below.refl _ w).alloc (Nat.le_refl _) _
  have hX1 : Blk W1 w.heap.size 57 (headC h) := by rw [← hW1]; exact Blk.new w _ _
  have hR1 := hr.below hB1
  have x3 := hR1.c3
  have HR := Lib.hid hr
  have HB1 := Lib.hid hB1
  have HX1 := Lib.hid hX1
  have HR1 := Lib.hid hR1
  have HXN := Lib.hid hxl
  clear hr hB1 hX1 hR1
  have hnl : ((xs.length : Int) == 4096) = false := by rw [hxl]; simpa using (by omega : ¬ (s.out.length : Int) = 4096)
  clear hxl
  have k2 := HX1.out.cell 2
  simp only [headC, List.getElem?_toArray, List.getElem?_cons_zero, List.getElem?_cons_succ] at k2
  have hkn := known_any h.kind W1
  rw [hk] at hkn
  obtain ⟨⟨oq, on, oc⟩, hov⟩ : ∃ x, ownV s q n c = x := ⟨_, rfl⟩
  have HSS : Hid (∀ wi, Rd w0 wi K (a + 512) s mb (.slice vp xs.length vc) xs q n c → ((wi.cell? ⟨K.r, 1, none⟩ = some (.pointer (some ⟨K.gs, 0, none⟩)) ∧ wi.cell? ⟨K.r, 2, none⟩ = some (.map (some K.mw))) ∧ (Instr.lookup 68 (.map (some K.mw)) (.int .u8 120) false).run Tryz.prog wi = .ok (.agg #[.string ⟨#[]⟩, .slice oq on oc]) wi)) :=
    Lib.hid (fun wi hi => ⟨⟨hi.c1, hi.c2⟩, look120 hi.map hov⟩)
  have HAP : Hid (∀ wi, Rd w0 wi K (a + 512) s mb (.slice vp xs.length vc) xs q n c → Calls Tryz.prog 83 #[.pointer (some ⟨K.gs, 0, none⟩), .agg (headC (renD h s)), .slice oq on oc] wi fun e w' => e = .returned (.tuple #[.agg (headC ah), .int .i64 0]) ∧ Below wi.heap.size wi w') :=
    Lib.hid (fun wi hi => by have := apply_rd h hi hov (renD h s); rw [hae] at this; exact this)
  have HPL := Lib.hid hae
  clear hov hae
  have HBD : Hid (0 ≤ ah.size ∧ ah.name.length ≤ 1048576 ∧ ah.link.length ≤ 1048576) := Lib.hid (by
    have := apply_bd h HR.out h0 h1 h2
    rw [HPL.out] at this
    exact this)
  have HND := Lib.hid hN
  clear hN h0 h1 h2
  obtain ⟨⟨fm, fe⟩, hfd⟩ : ∃ x, fromD ah = x := ⟨_, rfl⟩
  have hfb : fm.body = [] := by have := fromD_body ah; rw [hfd] at this; exact this
  have HFR : Hid (∀ wi, Tabs wi → Calls Tryz.prog 41 #[.agg (headC ah)] wi fun e w' => e = .returned (.tuple #[.agg #[.string (str fm.path), .string (str fm.target), .int .u8 (fm.kind.toNat : Int), .int .i64 fm.mode, .int .i64 fm.uid, .int .i64 fm.gid, .int .i64 fm.time, .slice none 0 0], .int .i64 fe]) ∧ Below wi.heap.size wi w') :=
    Lib.hid (fun wi hT => by
      obtain ⟨_, b1, b2⟩ := HBD.out
      have := fromHead_any ah wi (by omega) (by omega) hT
      rw [hfd] at this
      unfold memC at this
      simp only [hfb, List.length_nil] at this
      exact this)
  have HFD := Lib.hid hfd
  have HFB := Lib.hid hfb
  clear hfd hfb
  rw [HFD.out] at hfe0
  simp only at hfe0
  subst hfe0
  rw [HFD.out]
  have HF := Lib.hid hf
  have HBR := Lib.hid (And.intro hX hl)
  have HKL := Lib.hid hkl
  have HSZ := Lib.hid hsz
  clear hl hkl hsz hX hf
  go_enter Tryz.func54, Tryz.ntmps54
  go_upto_region 1 with fail
  clear hW1
  go_wp2_with fail
  refine hkn.mono ?_
  rintro e w1 ⟨rfl, rfl⟩
  go_upto_region 5 with fail
  refine wp_region_any (by kernel_rfl) (add5_region (w := w) (w1 := W1) K.r K.gs K.mw w.heap.size h (renD h s) oq on oc ah 0 (show 73 ≤ 73 from Nat.le_refl 73) rfl rfl (Nat.le_refl _) HB1.out HX1.out (fun wi hb => HSS.out wi (HR.out.below hb)) (fun wi hb => renamed_any h (HR.out.below hb)) (fun wi hb => HAP.out wi (HR.out.below hb)) ?_)
  intro W5 hb5 hx5
  have HB5 := Lib.hid hb5
  have HX5 := Lib.hid hx5
  have HR5 := Lib.hid (HR.out.below hb5)
  clear hb5 hx5 k2 x3
  simp only [Exit.then]
  apply_assumption
  have b9 := HX5.out
  have c0 := b9.cell 0
  have c1 := b9.cell 1
  have c2 := b9.cell 2
  have c3 := b9.cell 3
  have c4 := b9.cell 4
  have c5 := b9.cell 5
  have c6 := b9.cell 6
  have c7 := b9.cell 7
  have c8 := b9.cell 8
  simp only [headC, List.getElem?_toArray, List.getElem?_cons_zero, List.getElem?_cons_succ] at c0 c1 c2 c3 c4 c5 c6 c7 c8
  clear b9
  go_wp2_with fail
  refine (HFR.out _ (HR5.out.need HND.out).tabs).mono ?_
  rintro e w6 ⟨rfl, hb6⟩
  have hb7 := hb6.alloc hb6.size (.cells #[.string (str fm.path), .string (str fm.target), .int .u8 (fm.kind.toNat : Int), .int .i64 fm.mode, .int .i64 fm.uid, .int .i64 fm.gid, .int .i64 fm.time, .slice none 0 0] 37)
  have hm7 := Blk.new w6 37 #[.string (str fm.path), .string (str fm.target), .int .u8 (fm.kind.toNat : Int), .int .i64 fm.mode, .int .i64 fm.uid, .int .i64 fm.gid, .int .i64 fm.time, .slice none 0 0]
  have hw6 : w.heap.size < w6.heap.size := Nat.lt_of_lt_of_le HX5.out.lt hb6.size
  have HX7 := Lib.hid (HX5.out.below hb7 HX5.out.lt)
  have HR7 := Lib.hid (HR5.out.below hb7)
  have HM7 := Lib.hid hm7
  have HW6 := Lib.hid hw6
  clear hb6 hb7 hm7 hw6 c0 c1 c2 c3 c4 c5 c6 c7 c8
  obtain ⟨W7, hW7⟩ : ∃ W7, w6.alloc (.cells #[.string (str fm.path), .string (str fm.target), .int .u8 (fm.kind.toNat : Int), .int .i64 fm.mode, .int .i64 fm.uid, .int .i64 fm.gid, .int .i64 fm.time, .slice none 0 0] 37) = W7 := ⟨_, rfl⟩
  rw [hW7] at HX7 HR7 HM7
  have HW7 := Lib.hid hW7
  clear hW7
  have x0 := HR7.out.c0
  have z7 := HX7.out.cell 7
  simp only [headC, List.getElem?_toArray, List.getElem?_cons_zero, List.getElem?_cons_succ, HSZ.out] at z7
  have hRd := HR7.out.idle ((Kept.refl noneB W7).drew)
  obtain ⟨t, hs⟩ := hRd.src
  have hne : w.heap.size ≠ K.g ∧ w6.heap.size ≠ K.g := by
    obtain ⟨t', hs'⟩ := HR.out.src
    have := hs'.lt
    have := HW6.out
    exact ⟨by omega, by omega⟩
  have HRD := Lib.hid hRd
  have HNE := Lib.hid hne
  have hB := body_ok W7.drew K.g (a + 512) t K.S hs hRd.off k HKL.out X HBR.out.1 HBR.out.2
  clear hs hRd hne
  go_upto_region 11 with fail
  rw [HW7.out]
  go_region_held_law (fun w' => w'.cell? ⟨K.r, 0, none⟩ = some (.pointer (some ⟨K.g, 0, none⟩)) ∧ w'.cell? ⟨w.heap.size, 7, none⟩ = some (.int .i64 (k : Int))) (first | exact ⟨x0, z7⟩ | exact hS8 | exact hS9)
    (first
      | (go_at_call 79
         refine hB.mono ?_
         rintro e w8 ⟨p, t', rfl, h2, h3, h4, h5⟩
         have H8 := Lib.hid (HRD.out.moved h5 ⟨t', h4⟩)
         have HX8 : Hid (Blk w8 w.heap.size 57 (headC ah)) := Lib.hid ((HX7.out.drew).keptS h5 HNE.out.1)
         have HM8 : Hid (Blk w8 w6.heap.size 37 #[.string (str fm.path), .string (str fm.target), .int .u8 (fm.kind.toNat : Int), .int .i64 fm.mode, .int .i64 fm.uid, .int .i64 fm.gid, .int .i64 fm.time, .slice none 0 0]) := Lib.hid ((HM7.out.drew).keptS h5 HNE.out.2)
         have HB8 := Lib.hid (And.intro h2 h3)
         have hS8 : w8.cell? ⟨K.r, 0, none⟩ = some (.pointer (some ⟨K.g, 0, none⟩)) ∧ w8.cell? ⟨w.heap.size, 7, none⟩ = some (.int .i64 (k : Int)) := ⟨H8.out.c0, by have := HX8.out.cell 7; simp only [headC, List.getElem?_toArray, List.getElem?_cons_zero, List.getElem?_cons_succ, HSZ.out] at this; exact this⟩
         have hS9 : (w8.setCell ⟨w6.heap.size, 7, none⟩ (.slice p k k)).cell? ⟨K.r, 0, none⟩ = some (.pointer (some ⟨K.g, 0, none⟩)) ∧ (w8.setCell ⟨w6.heap.size, 7, none⟩ (.slice p k k)).cell? ⟨w.heap.size, 7, none⟩ = some (.int .i64 (k : Int)) :=
           ⟨(H8.out.blk.other (b' := w6.heap.size) (i := 7) (by have := HR.out.blk.lt; have := HW6.out; omega) _).cell 0, by have := (HX8.out.other (b' := w6.heap.size) (i := 7) (by have := HW6.out; omega) (.slice p k k)).cell 7; simp only [headC, List.getElem?_toArray, List.getElem?_cons_zero, List.getElem?_cons_succ, HSZ.out] at this; exact this⟩
         have m7 := HM8.out.cell 7
         have fm7 := HM8.out.frozen 7
         simp only [List.getElem?_toArray, List.getElem?_cons_zero, List.getElem?_cons_succ] at m7
         clear h2 h3 h4 h5))
  clear hB hS8 x0 z7
  have hm9 : Blk (w8.setCell ⟨w6.heap.size, 7, none⟩ (.slice p k k)) w6.heap.size 37 (MP.mk { fm with body := X } p k).cs := by
    have h9 := HM8.out.set 7 (.slice p k k) (by decide : 7 < 8)
    have e : (MP.mk { fm with body := X } p k).cs = #[.string (str fm.path), .string (str fm.target), .int .u8 (fm.kind.toNat : Int), .int .i64 fm.mode, .int .i64 fm.uid, .int .i64 fm.gid, .int .i64 fm.time, .slice p X.length k] := rfl
    rw [e, HXL.out]
    exact h9
  have hk9 : Kept (fun k => w.heap.size ≤ k) w8 (w8.setCell ⟨w6.heap.size, 7, none⟩ (.slice p k k)) := (Kept.refl _ w8).setCell (a := ⟨w6.heap.size, 7, none⟩) (.inr (Nat.le_of_lt HW6.out)) _
  have hR9 := Rd.foreign HR.out H8.out hk9
  have hb9 : BAt (w8.setCell ⟨w6.heap.size, 7, none⟩ (.slice p k k)) p k X := HB8.out.1.kept ((Kept.refl (oneB w6.heap.size) w8).setCell (a := ⟨w6.heap.size, 7, none⟩) (.inr rfl) _) (fun _ x hx e => by
    have h1 := HB8.out.2 x hx
    have h2 := HM7.out.lt
    have h3 : x.block = w6.heap.size := e
    have h4 : W7.drew.heap.size = W7.heap.size := rfl
    omega)
  obtain ⟨W9, hW9⟩ : ∃ W9, w8.setCell ⟨w6.heap.size, 7, none⟩ (.slice p k k) = W9 := ⟨_, rfl⟩
  rw [hW9] at hm9 hR9 hb9
  have HW9 := Lib.hid hW9
  have HM9 := Lib.hid hm9
  have HR9 := Lib.hid hR9
  have HB9 := Lib.hid hb9
  clear hm9 hR9 hb9 hk9 hS9 m7 fm7 hW9
  go_upto_region 14 with fail
  rw [HW9.out]
  refine wp_region_any (by kernel_rfl) (add14_region (w1 := W9) w0.heap.size K.r w6.heap.size (.slice vp xs.length vc) xs (MP.mk { fm with body := X } p k) (readerC K (.slice vp xs.length vc)) (show 73 ≤ 73 from Nat.le_refl 73) rfl rfl HM9.out HR9.out.blk rfl (fun e => (HR9.out.neV _ e).1 rfl) HR9.out.row HR9.out.bel.size (by have := HXN.out; have := HF.out; omega) ?_)
  intro γ wB hA
  obtain ⟨wA, g1, g2, g3, g4⟩ := hA
  have hRA := HR9.out.below g1
  have hmap := hRA.map_added (v' := γ.va) g3
  have hkB : Kept (fun k => (Value.slice vp xs.length vc).ownBlock = some k) wA wB := (Kept.refl _ wA).grown g3 (fun k hk => .inr hk)
  have hbC := ((hRA.blk.keptS hkB (fun e => (hRA.neV _ e).1 rfl)).set 3 γ.va (by decide : 3 < 4)).cell 2
  have c2 : (wB.setCell ⟨K.r, 3, none⟩ γ.va).cell? ⟨K.r, 2, none⟩ = some (.map (some K.mw)) := hbC
  obtain ⟨w2, hrun, hm2, hk2, hs2⟩ := hmap.cleared Tryz.underlying68 0
  have hy : BodyAt wA (MP.mk { fm with body := X } p k) := ⟨by show BAt wA p X.length X; rw [HXL.out]; exact HB9.out.below g1, by show X.length ≤ k; rw [HXL.out]; exact Nat.le_refl _, by show k ≤ maxLen; have := HKL.out; unfold maxLen; omega⟩
  have F := Lib.hid (hRA.added g2 g3 g4 hy (fun _ z hz => HRD.out.fresh (HB8.out.2 z hz)) HF.out hm2 hk2)
  clear g1 g2 g3 g4 hRA hmap hkB hbC hm2 hk2 hs2 hy
  simp only [Exit.then]
  apply_assumption
  go_wp2
  go_ret
  exact ⟨rfl, mb, γ.va, _, none, 0, 0, F.out⟩
end
end Go.Proofs.YtdjedimjhogdoaaGreatDoor.Mem
end
section
namespace Go.Proofs.YtdjedimjhogdoaaGreatDoor.Mem
open Go.ChangeShapes Go.WideShapes Go.ChangeAt Go.RowKit Go.Proofs.YtdjedimjhogdoaaGreatDoor.Base Go.Proofs.YtdjedimjhogdoaaGreatDoor.Byt Go.Proofs.YtdjedimjhogdoaaGreatDoor.Txt Go.Proofs.YtdjedimjhogdoaaGreatDoor.Bk Go.Proofs.YtdjedimjhogdoaaGreatDoor.Mk Go.Proofs.YtdjedimjhogdoaaGreatDoor.Block Go.Proofs.YtdjedimjhogdoaaGreatDoor.Hp Go.Proofs.YtdjedimjhogdoaaGreatDoor.Head Go.Proofs.YtdjedimjhogdoaaGreatDoor.Attr Go.Proofs.YtdjedimjhogdoaaGreatDoor.Rec Go.Proofs.YtdjedimjhogdoaaGreatDoor.Path Go.Lib Go.Shelf
set_option linter.unusedVariables false
set_option maxRecDepth 100000
section
variable {w0 w w' : World} {K : RK} {a : Nat} {s : RS} {mb : Option Nat} {v : Value} {xs : List MP} {q : Option Addr} {n c : Nat}
theorem known_is (k : UInt8) : knownD k = true ↔ ¬ (k ≠ 48 ∧ k ≠ 49 ∧ k ≠ 50 ∧ k ≠ 53) := by
  unfold knownD
  simp only [Bool.or_eq_true, beq_iff_eq]
  constructor
  · rintro (((h | h) | h) | h) ⟨h1, h2, h3, h4⟩
    · exact h1 h
    · exact h2 h
    · exact h3 h
    · exact h4 h
  · intro h
    by_cases h1 : k = 48
    · exact .inl (.inl (.inl h1))
    · by_cases h2 : k = 49
      · exact .inl (.inl (.inr h2))
      · by_cases h3 : k = 50
        · exact .inl (.inr h3)
        · by_cases h4 : k = 53
          · exact .inr h4
          · exact absurd ⟨h1, h2, h3, h4⟩ h
theorem add_any (hr : Rd w0 w K (a + 512) s mb v xs q n c) (h : HeadV) (hN : Need w0) (h0 : 0 ≤ h.size) (h1 : h.name.length ≤ 1048576) (h2 : h.link.length ≤ 1048576) :
    Calls Tryz.prog 54 #[.pointer (some ⟨K.r, 0, none⟩), .agg (headC h)] w (StepPost w0 K a (memD (K.S.bs.drop a) h s)) := by
  obtain ⟨t, hs⟩ := hr.src
  have hlen := hs.len
  have hle := hs.le
  have hLL : (K.S.bs.drop a).length = K.S.n - a := by rw [List.length_drop, hlen]
  unfold memD
  by_cases hf : 4096 ≤ s.out.length
  · rw [if_pos hf]
    exact (add_full hr h (Nat.le_antisymm hr.many hf)).mono fun e w' h => h
  · rw [if_neg hf]
    have hf' : s.out.length < 4096 := by omega
    by_cases hk : h.kind ≠ 48 ∧ h.kind ≠ 49 ∧ h.kind ≠ 50 ∧ h.kind ≠ 53
    · rw [if_pos hk]
      exact (add_odd hr h hf' (by
        cases hx : knownD h.kind with
        | false => rfl
        | true => exact absurd hk ((known_is _).1 hx))).mono fun e w' h => h
    · rw [if_neg hk, memOf_is]
      have hk' := (known_is _).2 hk
      by_cases ha : (applyD (lastD s.glob) s.own (renD h s)).2 ≠ 0
      · rw [if_pos ha]
        exact (add_noapply hr h hf' hk' ha).mono fun e w' h => h
      · rw [if_neg ha]
        have ha' : applyD (lastD s.glob) s.own (renD h s) = ((applyD (lastD s.glob) s.own (renD h s)).1, 0) := Prod.ext rfl (Classical.byContradiction ha)
        have hb := apply_bd h hr h0 h1 h2
        obtain ⟨ah, hah⟩ : ∃ x, (applyD (lastD s.glob) s.own (renD h s)).1 = x := ⟨_, rfl⟩
        rw [hah] at ha' hb ⊢
        by_cases hfr : (fromD ah).2 ≠ 0
        · rw [if_pos hfr]
          exact (add_nofrom hr h hf' hk' hN h0 h1 h2 ah ha' hfr).mono fun e w' h => h
        · rw [if_neg hfr]
          have hfr' : (fromD ah).2 = 0 := Classical.byContradiction hfr
          have hsz := fromD_size hfr'
          obtain ⟨k, hk0⟩ : ∃ k : Nat, ah.size = (k : Int) := ⟨ah.size.toNat, by omega⟩
          have hkl : k ≤ 1048576 := by omega
          have hbk : blocksOf k = padN k := rfl
          simp only
          unfold bodyN
          rw [hk0, Int.toNat_natCast, hLL]
          by_cases h3 : K.S.n < a + 512 + padN k
          · rw [if_pos (by rw [hbk]; omega)]
            exact (add_short hr h hf' hk' hN h0 h1 h2 ah ha' hfr' k hk0 hkl h3).mono fun e w' h => h
          · rw [if_neg (by rw [hbk]; omega)]
            simp only
            obtain ⟨X, hX⟩ : ∃ X, (K.S.bs.drop (a + 512)).take k = X := ⟨_, rfl⟩
            rw [List.drop_drop, hX, hbk]
            refine (add_ok hr h hf' hk' hN h0 h1 h2 ah ha' hfr' k hk0 hkl X hX (by omega)).mono ?_
            rintro e w' ⟨rfl, hb⟩
            rw [Nat.add_assoc] at hb
            exact ⟨rfl, hb⟩
/-! ### one header -/
theorem blk_ok (w : World) (g a t : Nat) (S : Sv) (h : Block.Src w g S a t) (ho : S.off g) (X : List UInt8) (hX : (S.bs.drop a).take 512 = X) (hl : a + 512 ≤ S.n) :
    Calls Tryz.prog 49 #[.pointer (some ⟨g, 0, none⟩)] w fun e w' => ∃ p c t', e = .returned (.tuple #[.slice p 512 c, .int .i64 0]) ∧ 512 ≤ c ∧ c ≤ maxLen ∧ BAt w' p 512 X ∧ Block.Src w' g S (a + 512) t' ∧ Kept (oneB g) w w' := by
  refine (srcBlock_any w g a t S h ho).mono ?_
  rintro e w' (⟨h1, _⟩ | ⟨_, h2⟩)
  · omega
  · rcases h2 with ⟨_, v, rfl, h3, ⟨t', h4⟩, h5⟩ | ⟨h1, _⟩
    · obtain ⟨p, c, rfl, h6, h7, h8, _, _⟩ := h3.slice
      rw [hX] at h8
      exact ⟨p, c, t', rfl, h6, h7, h8, h4, h5⟩
    · omega
theorem blk_no (w : World) (g a t : Nat) (S : Sv) (h : Block.Src w g S a t) (ho : S.off g) (hl : S.n < a + 512) :
    Calls Tryz.prog 49 #[.pointer (some ⟨g, 0, none⟩)] w fun e w' => ∃ E a' t', (E = 14 ∨ E = 2) ∧ e = .returned (.tuple #[.slice none 0 0, .int .i64 E]) ∧ Block.Src w' g S a' t' ∧ Kept (oneB g) w w' := by
  refine (srcBlock_any w g a t S h ho).mono ?_
  rintro e w' (⟨_, rfl, ⟨t', h1⟩, h2⟩ | ⟨_, h2⟩)
  · exact ⟨14, _, t', .inl rfl, rfl, h1, h2⟩
  · rcases h2 with ⟨h3, _⟩ | ⟨_, rfl, ⟨t', h4⟩, h5⟩
    · omega
    · exact ⟨2, _, t', .inr rfl, rfl, h4, h5⟩
def NextPost (w0 : World) (K : RK) (a : Nat) (s : RS) (mb : Option Nat) (v : Value) (xs : List MP) (q : Option Addr) (n c : Nat) (st : Step) (e : Ending) (w' : World) : Prop :=
  match st with
  | .fault er => (∃ b, e = .returned (.tuple #[.bool b, .int .i64 er])) ∧ Below w0.heap.size w0 w'
  | .done => e = .returned (.tuple #[.bool false, .int .i64 0]) ∧ ∃ a', Rd w0 w' K a' s mb v xs q n c
  | .next k s' => e = .returned (.tuple #[.bool true, .int .i64 0]) ∧ Left w0 K (a + k) s' w'
theorem next_short (hr : Rd w0 w K a s mb v xs q n c) (hl : K.S.n < a + 512) :
    Calls Tryz.prog 31 #[.pointer (some ⟨K.r, 0, none⟩)] w fun e w' => e = .returned (.tuple #[.bool false, .int .i64 2]) ∧ Below w0.heap.size w0 w' := by
  obtain ⟨t, hs⟩ := hr.src
  have HR := Lib.hid hr
  have x0 := hr.c0
  have hB := blk_no w K.g a t K.S hs hr.off hl
  clear hr hs hl
  go_enter Tryz.func31, Tryz.ntmps31
  go_wp2_with fail
  refine hB.mono ?_
  rintro e w1 ⟨E, a', t', hE, rfl, h4, h5⟩
  have F := Lib.hid (HR.out.moved h5 ⟨t', h4⟩)
  have hE0 : (E != 0) = true := by rcases hE with rfl | rfl <;> rfl
  clear h4 h5 hB x0 hE
  go_wp2
  go_ret2
  exact ⟨rfl, F.out.bel⟩
theorem next_end (hr : Rd w0 w K a s mb v xs q n c) (X : List UInt8) (hX : (K.S.bs.drop a).take 512 = X) (hl : a + 512 ≤ K.S.n) (hz : zeroB X = true) :
    Calls Tryz.prog 31 #[.pointer (some ⟨K.r, 0, none⟩)] w fun e w' => e = .returned (.tuple #[.bool false, .int .i64 (endE (K.S.bs.drop (a + 512)) s)]) ∧ ∃ a', Rd w0 w' K a' s mb v xs q n c := by
  obtain ⟨t, hs⟩ := hr.src
  have hXl : X.length = 512 := by rw [← hX, List.length_take, List.length_drop, hs.len]; omega
  have HR := Lib.hid hr
  have x0 := hr.c0
  have hB := blk_ok w K.g a t K.S hs hr.off X hX hl
  have HXL := Lib.hid hXl
  have HZ := Lib.hid hz
  obtain ⟨EE, hEE⟩ : ∃ EE, endE (K.S.bs.drop (a + 512)) s = EE := ⟨_, rfl⟩
  rw [hEE]
  have HEE := Lib.hid hEE
  clear hr hs hl hX hXl hz hEE
  go_enter Tryz.func31, Tryz.ntmps31
  go_wp2_with fail
  refine hB.mono ?_
  rintro e w1 ⟨p, cc, t', rfl, _, _, h3, h4, h5⟩
  have F := Lib.hid (HR.out.moved h5 ⟨t', h4⟩)
  have HB1 := Lib.hid h3
  clear h3 h4 h5 hB x0
  go_wp2_with fail
  refine (zero512_any p cc X w1 HXL.out HB1.out).mono ?_
  rw [HZ.out]
  rintro e w2 ⟨rfl, rfl⟩
  go_wp2_with fail
  refine (show Calls _ _ _ _ (EndPost w0 K (a + 512) s mb v xs q n c (endE (K.S.bs.drop (a + 512)) s)) from end_any F.out).mono ?_
  rw [HEE.out]
  rintro e w3 ⟨rfl, a', hR⟩
  have G := Lib.hid hR
  clear hR
  go_wp2
  go_ret2
  exact ⟨rfl, a', G.out⟩
theorem next_nohead (hr : Rd w0 w K a s mb v xs q n c) (X : List UInt8) (hX : (K.S.bs.drop a).take 512 = X) (hl : a + 512 ≤ K.S.n) (hz : zeroB X = false) (he : (headR X).2 ≠ 0) :
    Calls Tryz.prog 31 #[.pointer (some ⟨K.r, 0, none⟩)] w fun e w' => e = .returned (.tuple #[.bool false, .int .i64 (headR X).2]) ∧ Below w0.heap.size w0 w' := by
  obtain ⟨t, hs⟩ := hr.src
  have hXl : X.length = 512 := by rw [← hX, List.length_take, List.length_drop, hs.len]; omega
  have HR := Lib.hid hr
  have x0 := hr.c0
  have hB := blk_ok w K.g a t K.S hs hr.off X hX hl
  have HXL := Lib.hid hXl
  have HZ := Lib.hid hz
  obtain ⟨⟨h, er⟩, hh⟩ : ∃ x, headR X = x := ⟨_, rfl⟩
  rw [hh] at he ⊢
  simp only at he ⊢
  have hE0 : (er != 0) = true := by simpa using he
  have HH := Lib.hid hh
  clear hr hs hl hX hXl hz he hh
  go_enter Tryz.func31, Tryz.ntmps31
  go_wp2_with fail
  refine hB.mono ?_
  rintro e w1 ⟨p, cc, t', rfl, hc1, hc2, h3, h4, h5⟩
  have F := Lib.hid (HR.out.moved h5 ⟨t', h4⟩)
  have HB1 := Lib.hid h3
  have HC1 := Lib.hid (And.intro hc1 hc2)
  clear h3 h4 h5 hB x0 hc1 hc2
  go_wp2_with fail
  refine (zero512_any p cc X w1 HXL.out HB1.out).mono ?_
  rw [HZ.out]
  rintro e w2 ⟨rfl, rfl⟩
  go_wp2_with fail
  refine (parseH_any p 512 cc X w1 HXL.out HC1.out.1 HC1.out.2 HB1.out).mono ?_
  rw [HH.out]
  unfold headA headC
  simp only
  rintro e w3 ⟨rfl, hk3⟩
  have G := Lib.hid ((F.out.idle hk3).bel.alloc (F.out.idle hk3).bel.size (.cells #[.string (str h.name), .string (str h.link), .int .u8 (h.kind.toNat : Int), .int .i64 h.mode, .int .i64 h.uid, .int .i64 h.gid, .int .i64 h.time, .int .i64 h.size, .bool h.gnu] 57))
  clear hk3
  go_wp2
  go_ret2
  exact ⟨rfl, G.out⟩
end
end Go.Proofs.YtdjedimjhogdoaaGreatDoor.Mem
end
