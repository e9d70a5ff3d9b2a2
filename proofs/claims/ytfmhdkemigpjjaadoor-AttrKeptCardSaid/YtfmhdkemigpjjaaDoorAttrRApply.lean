/- The document's own answer for Apply, by contract. -/
import Derived.Test.YtfmhdkemigpjjaaDoorAttrApply
import Derived.Test.YtfmhdkemigpjjaaDoorAttrRef
namespace Go.Proofs.YtfmhdkemigpjjaaDoor.Attr
open Go.ChangeShapes Go.WideShapes Go.ChangeAt Go.RowKit Go.Shelf Go.Proofs.YtfmhdkemigpjjaaDoor.Base Go.Proofs.YtfmhdkemigpjjaaDoor.Byt Go.Proofs.YtfmhdkemigpjjaaDoor.Txt Go.Proofs.YtfmhdkemigpjjaaDoor.Rec Go.Proofs.YtfmhdkemigpjjaaDoor.Bk Go.Proofs.YtfmhdkemigpjjaaDoor.Hp Go.Proofs.YtfmhdkemigpjjaaDoor.Head Go.Lib
set_option linter.unusedVariables false
set_option maxRecDepth 100000

def numAt (h : HeadV) : Nat → Int
  | 0 => h.uid | 1 => h.gid | 2 => h.time | _ => h.size
def setAt (h : HeadV) (v : Int) : Nat → HeadV
  | 0 => { h with uid := v } | 1 => { h with gid := v } | 2 => { h with time := v } | _ => { h with size := v }
def stepsD (V : Nat → List UInt8) (h : HeadV) : Nat → Option HeadV
  | 0 => some h
  | j + 1 => match stepsD V h j with
    | some h' => (numD1 (decide (j = 2)) (V j) (numAt h' j)).map fun v => setAt h' v j
    | none => none
def textH (V : Nat → List UInt8) (h : HeadV) : HeadV := { h with name := textD1 (V 4) h.name, link := textD1 (V 5) h.link }
theorem applyV_steps (V : Nat → List UInt8) (h : HeadV) : applyV V h = match stepsD V (textH V h) 4 with
    | some h' => (h', 0)
    | none => (zeroH, 4) := by
  unfold applyV
  simp only [stepsD, numAt, setAt, textH, show decide (0 = 2) = false from rfl, show decide (1 = 2) = false from rfl, show decide (3 = 2) = false from rfl]
  cases numD1 false (V 0) h.uid with
  | none => rfl
  | some u =>
    cases h1 : numD1 false (V 1) h.gid with
    | none => simp [h1]
    | some g =>
      cases h2 : numD1 true (V 2) h.time with
      | none => simp [h1, h2]
      | some t =>
        cases h3 : numD1 false (V 3) h.size with
        | none => simp [h1, h2, h3]
        | some z => simp [h1, h2, h3]
theorem steps_none {V : Nat → List UInt8} {h : HeadV} (j : Nat) (hn : stepsD V h j = none) : ∀ k, stepsD V h (j + k) = none := fun k => by
  induction k with
  | zero => exact hn
  | succ k ih => rw [← Nat.add_assoc, stepsD, ih]
theorem four {j : Nat} (h : j < 4) : j = 0 ∨ j = 1 ∨ j = 2 ∨ j = 3 := by omega
theorem num_cell (h : HeadV) {j : Nat} (hj : j < 4) : (headC h)[4 + j]? = some (.int .i64 (numAt h j)) := by
  rcases four hj with rfl | rfl | rfl | rfl <;> rfl
theorem num_set (h : HeadV) (v : Int) {j : Nat} (hj : j < 4) (hi : 4 + j < (headC h).size) : (headC h).set (4 + j) (.int .i64 v) hi = headC (setAt h v j) := by
  rcases four hj with rfl | rfl | rfl | rfl <;> rfl
theorem set_same (h : HeadV) {j : Nat} (hj : j < 4) : setAt h (numAt h j) j = h := by
  rcases four hj with rfl | rfl | rfl | rfl <;> rfl
def keysC : Array Value := #[.string (str (keyT 0)), .string (str (keyT 1)), .string (str (keyT 2)), .string (str (keyT 3))]
def placesC (g : Nat) : Array Value := #[.pointer (some ⟨g, 4, none⟩), .pointer (some ⟨g, 5, none⟩), .pointer (some ⟨g, 6, none⟩), .pointer (some ⟨g, 7, none⟩)]
theorem keys_cell {j : Nat} (hj : j < 4) : keysC[j]? = some (.string (str (keyT j))) := by
  rcases four hj with rfl | rfl | rfl | rfl <;> rfl
theorem places_cell (g : Nat) {j : Nat} (hj : j < 4) : (placesC g)[j]? = some (.pointer (some ⟨g, 4 + j, none⟩)) := by
  rcases four hj with rfl | rfl | rfl | rfl <;> rfl
/-- what the loop over the numbers keeps -/
def LoopD (w wr : World) (V : Nat → List UInt8) (h : HeadV) (j : Nat) (hj : HeadV) : Prop :=
  Mid w wr hj ∧ Blk wr (w.heap.size + 2) 9 keysC ∧ Blk wr (w.heap.size + 3) 50 (placesC w.heap.size) ∧ stepsD V (textH V h) j = some hj
theorem apply_fail {V : Nat → List UInt8} {h hj : HeadV} {j : Nat} (hs : stepsD V (textH V h) j = some hj) (hj4 : j < 4) (hn : numD1 (decide (j = 2)) (V j) (numAt hj j) = none) : applyV V h = (zeroH, 4) := by
  have h1 : stepsD V (textH V h) (j + 1) = none := by rw [stepsD, hs]; simp [hn]
  have h2 := steps_none (j + 1) h1 (4 - (j + 1))
  rw [show j + 1 + (4 - (j + 1)) = 4 by omega] at h2
  rw [applyV_steps, h2]
theorem apply_good {V : Nat → List UInt8} {h hj : HeadV} (hs : stepsD V (textH V h) 4 = some hj) : applyV V h = (hj, 0) := by rw [applyV_steps, hs]
theorem LoopD.skip {w wr : World} {V : Nat → List UInt8} {h hj : HeadV} {j : Nat} (hL : LoopD w wr V h j hj) (hj4 : j < 4) (hv : V j = []) : LoopD w wr V h (j + 1) hj := by
  refine ⟨hL.1, hL.2.1, hL.2.2.1, ?_⟩
  rw [stepsD, hL.2.2.2]
  simp only [show numD1 (decide (j = 2)) (V j) (numAt hj j) = some (numAt hj j) from if_pos hv, Option.map_some, set_same hj hj4]
theorem LoopD.put {w wr : World} {V : Nat → List UInt8} {h hj : HeadV} {j : Nat} (hL : LoopD w wr V h j hj) (hj4 : j < 4) {N : Nat} (hv : V j ≠ []) (hN : readD (decide (j = 2)) (V j) = some N) :
    LoopD w (wr.setCell ⟨w.heap.size, 4 + j, none⟩ (.int .i64 (N : Int))) V h (j + 1) (setAt hj (N : Int) j) := by
  have hi : 4 + j < (headC hj).size := by show 4 + j < 9; omega
  have hk : Kept (oneB w.heap.size) wr (wr.setCell ⟨w.heap.size, 4 + j, none⟩ (.int .i64 (N : Int))) := (Kept.refl (oneB w.heap.size) _).setCell (a := ⟨w.heap.size, 4 + j, none⟩) (.inr rfl) _
  refine ⟨hL.1.put hk ?_, hL.2.1.other (by omega) _, hL.2.2.1.other (by omega) _, ?_⟩
  · have := hL.1.2.1.set (4 + j) (.int .i64 (N : Int)) hi
    rwa [num_set hj _ hj4] at this
  · rw [stepsD, hL.2.2.2]
    have e : numD1 (decide (j = 2)) (V j) (numAt hj j) = some (N : Int) := by
      unfold numD1
      rw [if_neg hv]
      unfold readD at hN
      rw [hN]
      rfl
    simp only [e, Option.map_some]
theorem key_is {j : Nat} (hj : j < 4) : ((str (keyT j)).toList == [109, 116, 105, 109, 101]) = decide (j = 2) := by
  rcases four hj with rfl | rfl | rfl | rfl <;> rw [str_toList] <;> rfl
theorem read_none {time : Bool} {v : List UInt8} {old : Int} (hv : v ≠ []) (h : readD time v = none) : numD1 time v old = none := by
  unfold numD1
  rw [if_neg hv]
  unfold readD at h
  rw [h]
  rfl
set_option maxHeartbeats 16000000 in
theorem rapply_any (q : Option Addr) (m d : Nat) (gs : RecL) (p : Option Addr) (n c : Nat) (rs : RecL) (h : HeadV) (w : World) (hm : m ≤ 4611686018427387904) (hn : n ≤ 4611686018427387904) (h1 : RecsAt w q m gs) (h2 : RecsAt w p n rs)
    (hl : ∀ i, i < 6 → (valueD (lastD gs) rs (keyT i)).length ≤ 140737488351232) :
    Calls Tryd.prog 11 #[.slice q m d, .slice p n c, .agg (headC h)] w fun e w' => e = .returned (headA (applyD (lastD gs) rs h)) ∧ Below w.heap.size w w' := by
  obtain ⟨V, hV⟩ : ∃ V : Nat → List UInt8, V = fun i => valueD (lastD gs) rs (keyT i) := ⟨_, rfl⟩
  have CV : Hid (∀ (i : Nat) (wi : World), Below w.heap.size w wi → Calls Tryd.prog 13 #[.slice q m d, .slice p n c, .string (str (keyT i))] wi fun e w' => e = .returned (.string (str (V i))) ∧ wi = w') :=
    Lib.hid (fun i wi hb => by rw [hV]; exact rvalue_any q m d gs p n c rs (keyT i) wi hm hn (h1.below hb) (h2.below hb))
  have HL : Hid (∀ i, i < 6 → (V i).length ≤ 140737488351232) := Lib.hid (by rw [hV]; exact hl)
  rw [show applyD (lastD gs) rs h = applyV V h by rw [hV]; rfl]
  clear hl h1 h2 hm hn hV
  obtain ⟨U, hU⟩ : ∃ U : HeadV × Int, applyV V h = U := ⟨_, rfl⟩
  rw [hU]
  have HU := Lib.hid hU
  clear hU
  simp only [headC]
  by_cases hv4 : V 4 = []
  · have HV4 := Lib.hid hv4
    have v4 : (str (V 4)).toList.isEmpty = true := by rw [str_empty]; simpa using hv4
    clear hv4
    by_cases hv5 : V 5 = []
    · have HV5 := Lib.hid hv5
      have v5 : (str (V 5)).toList.isEmpty = true := by rw [str_empty]; simpa using hv5
      clear hv5
      go_enter Tryd.func11, Tryd.ntmps11
      go_wp2_with fail
      have HM0 : Hid (Mid w ((w.alloc (.cells (headC h) 25)).alloc (.cells (headC zeroH) 25)) h ∧ ((w.alloc (.cells (headC h) 25)).alloc (.cells (headC zeroH) 25)).heap.size = w.heap.size + 2) := by
        have b1 := Blk.new (w.alloc (.cells (headC h) 25)) 25 (headC zeroH)
        rw [World.size_alloc] at b1
        exact Lib.hid ⟨⟨((Below.refl _ w).alloc (Nat.le_refl _) _).alloc (by simp) _, (Blk.new w 25 (headC h)).alloc _, b1⟩, by simp⟩
      simp only [headC, zeroH] at HM0
      obtain ⟨W1, hW1⟩ : ∃ W1, (w.alloc (.cells #[.string (str h.name), .string (str h.link), .int .u8 (h.kind.toNat : Int), .int .i64 h.mode, .int .i64 h.uid, .int .i64 h.gid, .int .i64 h.time, .int .i64 h.size, .bool h.gnu] 25)).alloc (.cells #[.string (str []), .string (str []), .int .u8 ((0 : UInt8).toNat : Int), .int .i64 0, .int .i64 0, .int .i64 0, .int .i64 0, .int .i64 0, .bool false] 25) = W1 := ⟨_, rfl⟩
      rw [hW1] at HM0
      have hW1' : (w.alloc (.cells #[.string (str h.name), .string (str h.link), .int .u8 (h.kind.toNat : Int), .int .i64 h.mode, .int .i64 h.uid, .int .i64 h.gid, .int .i64 h.time, .int .i64 h.size, .bool h.gnu] 25)).alloc (.cells #[.string ⟨#[]⟩, .string ⟨#[]⟩, .int .u8 0, .int .i64 0, .int .i64 0, .int .i64 0, .int .i64 0, .int .i64 0, .bool false] 25) = W1 := hW1
      rw [hW1']
      clear hW1 hW1'
      refine (CV.out 4 _ HM0.out.1.1).mono ?_
      rintro e w1 ⟨rfl, rfl⟩
      have c0 := HM0.out.1.2.1.cell 0
      have f0 := HM0.out.1.2.1.frozen 0
      simp only [headC, List.getElem?_toArray, List.getElem?_cons_zero] at c0
      go_wp2_with fail
      have HM2 : Hid (Mid w W1 { h with name := textD1 (V 4) h.name } ∧ W1.heap.size = w.heap.size + 2) := Lib.hid (by rw [show textD1 (V 4) h.name = h.name from if_pos HV4.out]; exact HM0.out)
      clear HM0 c0 f0
      refine (CV.out 5 _ HM2.out.1.1).mono ?_
      rintro e w3 ⟨rfl, rfl⟩
      have c0 := HM2.out.1.2.1.cell 1
      have f0 := HM2.out.1.2.1.frozen 1
      simp only [headC, List.getElem?_toArray, List.getElem?_cons_zero, List.getElem?_cons_succ] at c0
      have hsz := HM2.out.2
      go_wp2_with fail
      have HM3 : Hid (Mid w W1 (textH V h) ∧ W1.heap.size = w.heap.size + 2) := Lib.hid (by unfold textH; rw [show textD1 (V 5) h.link = h.link from if_pos HV5.out]; exact HM2.out)
      obtain ⟨W3, hW3⟩ : ∃ W3, W1 = W3 := ⟨_, rfl⟩
      rw [hW3] at HM3 ⊢
      have hsz3 := HM3.out.2
      have HL0 : Hid (LoopD w ((W3.alloc (.cells keysC 9)).alloc (.cells (placesC w.heap.size) 50)) V h 0 (textH V h)) := Lib.hid (by
        have hk := (Blk.new W3 9 keysC).alloc (.cells (placesC w.heap.size) 50)
        have hp := Blk.new (W3.alloc (.cells keysC 9)) 50 (placesC w.heap.size)
        rw [World.size_alloc, hsz3] at hp
        rw [hsz3] at hk
        exact ⟨HM3.out.1.below (((Below.refl _ _).alloc (Nat.le_refl _) _).alloc (by simp) _), hk, hp, rfl⟩)
      clear HM2 HM3 hW3 hsz c0 f0
      simp only [keysC, placesC] at HL0
      obtain ⟨W4, hW4⟩ : ∃ W4, (W3.alloc (.cells #[.string (str (keyT 0)), .string (str (keyT 1)), .string (str (keyT 2)), .string (str (keyT 3))] 9)).alloc (.cells #[.pointer (some ⟨w.heap.size, 4, none⟩), .pointer (some ⟨w.heap.size, 5, none⟩), .pointer (some ⟨w.heap.size, 6, none⟩), .pointer (some ⟨w.heap.size, 7, none⟩)] 50) = W4 := ⟨_, rfl⟩
      rw [hW4] at HL0
      have hW4' : (W3.alloc (.cells #[.string ⟨#[117, 105, 100]⟩, .string ⟨#[103, 105, 100]⟩, .string ⟨#[109, 116, 105, 109, 101]⟩, .string ⟨#[115, 105, 122, 101]⟩] 9)).alloc (.cells #[.pointer (some ⟨w.heap.size, 4, none⟩), .pointer (some ⟨w.heap.size, 5, none⟩), .pointer (some ⟨w.heap.size, 6, none⟩), .pointer (some ⟨w.heap.size, 7, none⟩)] 50) = W4 := hW4
      rw [hW4']
      clear hW4 hW4' hsz3
      go_loopw [12] (fun i wr => ∃ (j : Nat) (hj : HeadV), j ≤ 4 ∧ i = .int .i64 (j : Int) ∧ Hid (LoopD w wr V h j hj)) (fun i _ => 4 - (RowKit.intOf i).toNat)
      case atStart => exact ⟨0, textH V h, by omega, rfl, HL0⟩
      case round =>
        obtain ⟨j, hj, hj4, rfl, hI⟩ := hrel
        by_cases hlt : j < 4
        · have hltz : (j : Int) < 4 := by omega
          have k0 := hI.out.2.1.cell j
          rw [keys_cell hlt] at k0
          have p0 := hI.out.2.2.1.cell j
          rw [places_cell _ hlt] at p0
          have g0 := hI.out.1.2.1.cell (4 + j)
          rw [num_cell hj hlt] at g0
          have g1 := hI.out.1.2.1.frozen (4 + j)
          have HLT := Lib.hid hlt
          have hkey := key_is hlt
          go_wp2_with fail
          refine (CV.out j _ hI.out.1.1).mono ?_
          rintro e w5 ⟨rfl, rfl⟩
          have HLV := Lib.hid (HL.out j (by omega))
          by_cases hv : V j = []
          · have v1 : (str (V j)).toList.isEmpty = true := by rw [str_empty]; simpa using hv
            have HN := Lib.hid (hI.out.skip hlt hv)
            clear hv
            go_wp2
            go_roundw
            case rel => exact ⟨j + 1, hj, by omega, by go_num, HN⟩
            case measure => simp [RowKit.intOf]; omega
          · have v1 : (str (V j)).toList.isEmpty = false := by rw [str_empty]; simpa using hv
            have HV := Lib.hid hv
            have hw := fun w => whole_any (str (V j)) w
            have hs := fun w => rsec_any (str (V j)) w (by rw [str_size]; exact HLV.out)
            simp only [str_data, wholeV_eq] at hw hs
            clear hv
            by_cases hj2 : j = 2
            · rw [decide_eq_true hj2] at hkey
              have HR : Hid (readD (decide (j = 2)) (V j) = secD (V j)) := Lib.hid (by rw [decide_eq_true hj2]; rfl)
              clear hj2
              cases hz : secD (V j) with
              | none =>
                have HF : Hid (applyV V h = (zeroH, 4)) := Lib.hid (apply_fail hI.out.2.2.2 hlt (read_none HV.out (by rw [HR.out, hz])))
                rw [hz] at hs
                clear hz
                have HW := Lib.hid hw
                have HSS := Lib.hid hs
                clear hw hs
                go_wp2_with fail
                refine (HW.out _).mono ?_
                rintro e w6 ⟨rfl, rfl⟩
                go_wp2_with fail
                refine (HSS.out _).mono ?_
                rintro e w7 ⟨rfl, rfl⟩
                have b2 := hI.out.1.2.2
                have r0 := b2.cell 0
                have f0 := b2.frozen 0
                have r1 := b2.cell 1
                have f1 := b2.frozen 1
                have r2 := b2.cell 2
                have f2 := b2.frozen 2
                have r3 := b2.cell 3
                have f3 := b2.frozen 3
                have r4 := b2.cell 4
                have f4 := b2.frozen 4
                have r5 := b2.cell 5
                have f5 := b2.frozen 5
                have r6 := b2.cell 6
                have f6 := b2.frozen 6
                have r7 := b2.cell 7
                have f7 := b2.frozen 7
                have r8 := b2.cell 8
                have f8 := b2.frozen 8
                simp only [headC, zeroH, List.getElem?_toArray, List.getElem?_cons_zero, List.getElem?_cons_succ] at r0 r1 r2 r3 r4 r5 r6 r7 r8
                clear b2
                go_wp2
                refine bodyPost_ret (ret_headB rfl _ _ (w.heap.size + 1) _ rfl rfl zeroH (blk9 hI.out.1.2.2 _ _ _ _ _ _ _ _ _)) rfl ?_
                exact ⟨by rw [← HU.out, HF.out]; rfl, kept9 hI.out.1.1 (by omega) _ _ _ _ _ _ _ _ _⟩
              | some N =>
                have HN := Lib.hid (hI.out.put hlt HV.out (by rw [HR.out, hz]))
                rw [hz] at hs
                clear hz
                have HW := Lib.hid hw
                have HSS := Lib.hid hs
                clear hw hs
                go_wp2_with fail
                refine (HW.out _).mono ?_
                rintro e w6 ⟨rfl, rfl⟩
                go_wp2_with fail
                refine (HSS.out _).mono ?_
                rintro e w7 ⟨rfl, rfl⟩
                rw [show natO (some N) = (N : Int) from rfl]
                go_wp2
                go_roundw
                case rel => exact ⟨j + 1, _, by omega, by go_num, HN⟩
                case measure => simp [RowKit.intOf]; omega
            · rw [decide_eq_false hj2] at hkey
              have HR : Hid (readD (decide (j = 2)) (V j) = wholeD (V j)) := Lib.hid (by rw [decide_eq_false hj2]; rfl)
              clear hj2 hs
              cases hz : wholeD (V j) with
              | none =>
                have HF : Hid (applyV V h = (zeroH, 4)) := Lib.hid (apply_fail hI.out.2.2.2 hlt (read_none HV.out (by rw [HR.out, hz])))
                rw [hz] at hw
                clear hz
                have HW := Lib.hid hw
                clear hw
                go_wp2_with fail
                refine (HW.out _).mono ?_
                rintro e w6 ⟨rfl, rfl⟩
                have b2 := hI.out.1.2.2
                have r0 := b2.cell 0
                have f0 := b2.frozen 0
                have r1 := b2.cell 1
                have f1 := b2.frozen 1
                have r2 := b2.cell 2
                have f2 := b2.frozen 2
                have r3 := b2.cell 3
                have f3 := b2.frozen 3
                have r4 := b2.cell 4
                have f4 := b2.frozen 4
                have r5 := b2.cell 5
                have f5 := b2.frozen 5
                have r6 := b2.cell 6
                have f6 := b2.frozen 6
                have r7 := b2.cell 7
                have f7 := b2.frozen 7
                have r8 := b2.cell 8
                have f8 := b2.frozen 8
                simp only [headC, zeroH, List.getElem?_toArray, List.getElem?_cons_zero, List.getElem?_cons_succ] at r0 r1 r2 r3 r4 r5 r6 r7 r8
                clear b2
                go_wp2
                refine bodyPost_ret (ret_headB rfl _ _ (w.heap.size + 1) _ rfl rfl zeroH (blk9 hI.out.1.2.2 _ _ _ _ _ _ _ _ _)) rfl ?_
                exact ⟨by rw [← HU.out, HF.out]; rfl, kept9 hI.out.1.1 (by omega) _ _ _ _ _ _ _ _ _⟩
              | some N =>
                have HN := Lib.hid (hI.out.put hlt HV.out (by rw [HR.out, hz]))
                rw [hz] at hw
                clear hz
                have HW := Lib.hid hw
                clear hw
                go_wp2_with fail
                refine (HW.out _).mono ?_
                rintro e w6 ⟨rfl, rfl⟩
                rw [show natO (some N) = (N : Int) from rfl]
                go_wp2
                go_roundw
                case rel => exact ⟨j + 1, _, by omega, by go_num, HN⟩
                case measure => simp [RowKit.intOf]; omega
        · obtain rfl : j = 4 := by omega
          have E : Hid (U = (hj, 0)) := Lib.hid (by rw [← HU.out]; exact apply_good hI.out.2.2.2)
          have b1 := hI.out.1.2.1
          have b2 := hI.out.1.2.2
          have c0 := b1.cell 0
          have c1 := b1.cell 1
          have c2 := b1.cell 2
          have c3 := b1.cell 3
          have c4 := b1.cell 4
          have c5 := b1.cell 5
          have c6 := b1.cell 6
          have c7 := b1.cell 7
          have c8 := b1.cell 8
          simp only [headC, List.getElem?_toArray, List.getElem?_cons_zero, List.getElem?_cons_succ] at c0 c1 c2 c3 c4 c5 c6 c7 c8
          have r0 := b2.cell 0
          have f0 := b2.frozen 0
          have r1 := b2.cell 1
          have f1 := b2.frozen 1
          have r2 := b2.cell 2
          have f2 := b2.frozen 2
          have r3 := b2.cell 3
          have f3 := b2.frozen 3
          have r4 := b2.cell 4
          have f4 := b2.frozen 4
          have r5 := b2.cell 5
          have f5 := b2.frozen 5
          have r6 := b2.cell 6
          have f6 := b2.frozen 6
          have r7 := b2.cell 7
          have f7 := b2.frozen 7
          have r8 := b2.cell 8
          have f8 := b2.frozen 8
          simp only [headC, zeroH, List.getElem?_toArray, List.getElem?_cons_zero, List.getElem?_cons_succ] at r0 r1 r2 r3 r4 r5 r6 r7 r8
          clear b1 b2
          go_wp2
          refine bodyPost_ret (ret_headB rfl _ _ (w.heap.size + 1) _ rfl rfl hj (blk9 hI.out.1.2.2 _ _ _ _ _ _ _ _ _)) rfl ?_
          exact ⟨by rw [E.out]; rfl, kept9 hI.out.1.1 (by omega) _ _ _ _ _ _ _ _ _⟩
    · have HV5 := Lib.hid hv5
      have v5 : (str (V 5)).toList.isEmpty = false := by rw [str_empty]; simpa using hv5
      clear hv5
      go_enter Tryd.func11, Tryd.ntmps11
      go_wp2_with fail
      have HM0 : Hid (Mid w ((w.alloc (.cells (headC h) 25)).alloc (.cells (headC zeroH) 25)) h ∧ ((w.alloc (.cells (headC h) 25)).alloc (.cells (headC zeroH) 25)).heap.size = w.heap.size + 2) := by
        have b1 := Blk.new (w.alloc (.cells (headC h) 25)) 25 (headC zeroH)
        rw [World.size_alloc] at b1
        exact Lib.hid ⟨⟨((Below.refl _ w).alloc (Nat.le_refl _) _).alloc (by simp) _, (Blk.new w 25 (headC h)).alloc _, b1⟩, by simp⟩
      simp only [headC, zeroH] at HM0
      obtain ⟨W1, hW1⟩ : ∃ W1, (w.alloc (.cells #[.string (str h.name), .string (str h.link), .int .u8 (h.kind.toNat : Int), .int .i64 h.mode, .int .i64 h.uid, .int .i64 h.gid, .int .i64 h.time, .int .i64 h.size, .bool h.gnu] 25)).alloc (.cells #[.string (str []), .string (str []), .int .u8 ((0 : UInt8).toNat : Int), .int .i64 0, .int .i64 0, .int .i64 0, .int .i64 0, .int .i64 0, .bool false] 25) = W1 := ⟨_, rfl⟩
      rw [hW1] at HM0
      have hW1' : (w.alloc (.cells #[.string (str h.name), .string (str h.link), .int .u8 (h.kind.toNat : Int), .int .i64 h.mode, .int .i64 h.uid, .int .i64 h.gid, .int .i64 h.time, .int .i64 h.size, .bool h.gnu] 25)).alloc (.cells #[.string ⟨#[]⟩, .string ⟨#[]⟩, .int .u8 0, .int .i64 0, .int .i64 0, .int .i64 0, .int .i64 0, .int .i64 0, .bool false] 25) = W1 := hW1
      rw [hW1']
      clear hW1 hW1'
      refine (CV.out 4 _ HM0.out.1.1).mono ?_
      rintro e w1 ⟨rfl, rfl⟩
      have c0 := HM0.out.1.2.1.cell 0
      have f0 := HM0.out.1.2.1.frozen 0
      simp only [headC, List.getElem?_toArray, List.getElem?_cons_zero] at c0
      go_wp2_with fail
      have HM2 : Hid (Mid w W1 { h with name := textD1 (V 4) h.name } ∧ W1.heap.size = w.heap.size + 2) := Lib.hid (by rw [show textD1 (V 4) h.name = h.name from if_pos HV4.out]; exact HM0.out)
      clear HM0 c0 f0
      refine (CV.out 5 _ HM2.out.1.1).mono ?_
      rintro e w3 ⟨rfl, rfl⟩
      have c0 := HM2.out.1.2.1.cell 1
      have f0 := HM2.out.1.2.1.frozen 1
      simp only [headC, List.getElem?_toArray, List.getElem?_cons_zero, List.getElem?_cons_succ] at c0
      have hsz := HM2.out.2
      go_wp2_with fail
      obtain ⟨W3, hW3⟩ : ∃ W3, W1.setCell ⟨w.heap.size, 1, none⟩ (.string (str (V 5))) = W3 := ⟨_, rfl⟩
      have HM3 : Hid (Mid w (W1.setCell ⟨w.heap.size, 1, none⟩ (.string (str (V 5)))) (textH V h) ∧ (W1.setCell ⟨w.heap.size, 1, none⟩ (.string (str (V 5)))).heap.size = w.heap.size + 2) := Lib.hid (by
        unfold textH
        rw [show textD1 (V 5) h.link = V 5 from if_neg HV5.out]
        exact ⟨HM2.out.1.put (h' := { h with name := textD1 (V 4) h.name, link := V 5 }) ((Kept.refl (oneB w.heap.size) _).setCell (a := ⟨w.heap.size, 1, none⟩) (.inr rfl) _) (HM2.out.1.2.1.set 1 _ (by show 1 < 9; decide)), by rw [World.size_setCell]; exact HM2.out.2⟩)
      rw [hW3] at HM3 ⊢
      have hsz3 := HM3.out.2
      have HL0 : Hid (LoopD w ((W3.alloc (.cells keysC 9)).alloc (.cells (placesC w.heap.size) 50)) V h 0 (textH V h)) := Lib.hid (by
        have hk := (Blk.new W3 9 keysC).alloc (.cells (placesC w.heap.size) 50)
        have hp := Blk.new (W3.alloc (.cells keysC 9)) 50 (placesC w.heap.size)
        rw [World.size_alloc, hsz3] at hp
        rw [hsz3] at hk
        exact ⟨HM3.out.1.below (((Below.refl _ _).alloc (Nat.le_refl _) _).alloc (by simp) _), hk, hp, rfl⟩)
      clear HM2 HM3 hW3 hsz c0 f0
      simp only [keysC, placesC] at HL0
      obtain ⟨W4, hW4⟩ : ∃ W4, (W3.alloc (.cells #[.string (str (keyT 0)), .string (str (keyT 1)), .string (str (keyT 2)), .string (str (keyT 3))] 9)).alloc (.cells #[.pointer (some ⟨w.heap.size, 4, none⟩), .pointer (some ⟨w.heap.size, 5, none⟩), .pointer (some ⟨w.heap.size, 6, none⟩), .pointer (some ⟨w.heap.size, 7, none⟩)] 50) = W4 := ⟨_, rfl⟩
      rw [hW4] at HL0
      have hW4' : (W3.alloc (.cells #[.string ⟨#[117, 105, 100]⟩, .string ⟨#[103, 105, 100]⟩, .string ⟨#[109, 116, 105, 109, 101]⟩, .string ⟨#[115, 105, 122, 101]⟩] 9)).alloc (.cells #[.pointer (some ⟨w.heap.size, 4, none⟩), .pointer (some ⟨w.heap.size, 5, none⟩), .pointer (some ⟨w.heap.size, 6, none⟩), .pointer (some ⟨w.heap.size, 7, none⟩)] 50) = W4 := hW4
      rw [hW4']
      clear hW4 hW4' hsz3
      go_loopw [12] (fun i wr => ∃ (j : Nat) (hj : HeadV), j ≤ 4 ∧ i = .int .i64 (j : Int) ∧ Hid (LoopD w wr V h j hj)) (fun i _ => 4 - (RowKit.intOf i).toNat)
      case atStart => exact ⟨0, textH V h, by omega, rfl, HL0⟩
      case round =>
        obtain ⟨j, hj, hj4, rfl, hI⟩ := hrel
        by_cases hlt : j < 4
        · have hltz : (j : Int) < 4 := by omega
          have k0 := hI.out.2.1.cell j
          rw [keys_cell hlt] at k0
          have p0 := hI.out.2.2.1.cell j
          rw [places_cell _ hlt] at p0
          have g0 := hI.out.1.2.1.cell (4 + j)
          rw [num_cell hj hlt] at g0
          have g1 := hI.out.1.2.1.frozen (4 + j)
          have HLT := Lib.hid hlt
          have hkey := key_is hlt
          go_wp2_with fail
          refine (CV.out j _ hI.out.1.1).mono ?_
          rintro e w5 ⟨rfl, rfl⟩
          have HLV := Lib.hid (HL.out j (by omega))
          by_cases hv : V j = []
          · have v1 : (str (V j)).toList.isEmpty = true := by rw [str_empty]; simpa using hv
            have HN := Lib.hid (hI.out.skip hlt hv)
            clear hv
            go_wp2
            go_roundw
            case rel => exact ⟨j + 1, hj, by omega, by go_num, HN⟩
            case measure => simp [RowKit.intOf]; omega
          · have v1 : (str (V j)).toList.isEmpty = false := by rw [str_empty]; simpa using hv
            have HV := Lib.hid hv
            have hw := fun w => whole_any (str (V j)) w
            have hs := fun w => rsec_any (str (V j)) w (by rw [str_size]; exact HLV.out)
            simp only [str_data, wholeV_eq] at hw hs
            clear hv
            by_cases hj2 : j = 2
            · rw [decide_eq_true hj2] at hkey
              have HR : Hid (readD (decide (j = 2)) (V j) = secD (V j)) := Lib.hid (by rw [decide_eq_true hj2]; rfl)
              clear hj2
              cases hz : secD (V j) with
              | none =>
                have HF : Hid (applyV V h = (zeroH, 4)) := Lib.hid (apply_fail hI.out.2.2.2 hlt (read_none HV.out (by rw [HR.out, hz])))
                rw [hz] at hs
                clear hz
                have HW := Lib.hid hw
                have HSS := Lib.hid hs
                clear hw hs
                go_wp2_with fail
                refine (HW.out _).mono ?_
                rintro e w6 ⟨rfl, rfl⟩
                go_wp2_with fail
                refine (HSS.out _).mono ?_
                rintro e w7 ⟨rfl, rfl⟩
                have b2 := hI.out.1.2.2
                have r0 := b2.cell 0
                have f0 := b2.frozen 0
                have r1 := b2.cell 1
                have f1 := b2.frozen 1
                have r2 := b2.cell 2
                have f2 := b2.frozen 2
                have r3 := b2.cell 3
                have f3 := b2.frozen 3
                have r4 := b2.cell 4
                have f4 := b2.frozen 4
                have r5 := b2.cell 5
                have f5 := b2.frozen 5
                have r6 := b2.cell 6
                have f6 := b2.frozen 6
                have r7 := b2.cell 7
                have f7 := b2.frozen 7
                have r8 := b2.cell 8
                have f8 := b2.frozen 8
                simp only [headC, zeroH, List.getElem?_toArray, List.getElem?_cons_zero, List.getElem?_cons_succ] at r0 r1 r2 r3 r4 r5 r6 r7 r8
                clear b2
                go_wp2
                refine bodyPost_ret (ret_headB rfl _ _ (w.heap.size + 1) _ rfl rfl zeroH (blk9 hI.out.1.2.2 _ _ _ _ _ _ _ _ _)) rfl ?_
                exact ⟨by rw [← HU.out, HF.out]; rfl, kept9 hI.out.1.1 (by omega) _ _ _ _ _ _ _ _ _⟩
              | some N =>
                have HN := Lib.hid (hI.out.put hlt HV.out (by rw [HR.out, hz]))
                rw [hz] at hs
                clear hz
                have HW := Lib.hid hw
                have HSS := Lib.hid hs
                clear hw hs
                go_wp2_with fail
                refine (HW.out _).mono ?_
                rintro e w6 ⟨rfl, rfl⟩
                go_wp2_with fail
                refine (HSS.out _).mono ?_
                rintro e w7 ⟨rfl, rfl⟩
                rw [show natO (some N) = (N : Int) from rfl]
                go_wp2
                go_roundw
                case rel => exact ⟨j + 1, _, by omega, by go_num, HN⟩
                case measure => simp [RowKit.intOf]; omega
            · rw [decide_eq_false hj2] at hkey
              have HR : Hid (readD (decide (j = 2)) (V j) = wholeD (V j)) := Lib.hid (by rw [decide_eq_false hj2]; rfl)
              clear hj2 hs
              cases hz : wholeD (V j) with
              | none =>
                have HF : Hid (applyV V h = (zeroH, 4)) := Lib.hid (apply_fail hI.out.2.2.2 hlt (read_none HV.out (by rw [HR.out, hz])))
                rw [hz] at hw
                clear hz
                have HW := Lib.hid hw
                clear hw
                go_wp2_with fail
                refine (HW.out _).mono ?_
                rintro e w6 ⟨rfl, rfl⟩
                have b2 := hI.out.1.2.2
                have r0 := b2.cell 0
                have f0 := b2.frozen 0
                have r1 := b2.cell 1
                have f1 := b2.frozen 1
                have r2 := b2.cell 2
                have f2 := b2.frozen 2
                have r3 := b2.cell 3
                have f3 := b2.frozen 3
                have r4 := b2.cell 4
                have f4 := b2.frozen 4
                have r5 := b2.cell 5
                have f5 := b2.frozen 5
                have r6 := b2.cell 6
                have f6 := b2.frozen 6
                have r7 := b2.cell 7
                have f7 := b2.frozen 7
                have r8 := b2.cell 8
                have f8 := b2.frozen 8
                simp only [headC, zeroH, List.getElem?_toArray, List.getElem?_cons_zero, List.getElem?_cons_succ] at r0 r1 r2 r3 r4 r5 r6 r7 r8
                clear b2
                go_wp2
                refine bodyPost_ret (ret_headB rfl _ _ (w.heap.size + 1) _ rfl rfl zeroH (blk9 hI.out.1.2.2 _ _ _ _ _ _ _ _ _)) rfl ?_
                exact ⟨by rw [← HU.out, HF.out]; rfl, kept9 hI.out.1.1 (by omega) _ _ _ _ _ _ _ _ _⟩
              | some N =>
                have HN := Lib.hid (hI.out.put hlt HV.out (by rw [HR.out, hz]))
                rw [hz] at hw
                clear hz
                have HW := Lib.hid hw
                clear hw
                go_wp2_with fail
                refine (HW.out _).mono ?_
                rintro e w6 ⟨rfl, rfl⟩
                rw [show natO (some N) = (N : Int) from rfl]
                go_wp2
                go_roundw
                case rel => exact ⟨j + 1, _, by omega, by go_num, HN⟩
                case measure => simp [RowKit.intOf]; omega
        · obtain rfl : j = 4 := by omega
          have E : Hid (U = (hj, 0)) := Lib.hid (by rw [← HU.out]; exact apply_good hI.out.2.2.2)
          have b1 := hI.out.1.2.1
          have b2 := hI.out.1.2.2
          have c0 := b1.cell 0
          have c1 := b1.cell 1
          have c2 := b1.cell 2
          have c3 := b1.cell 3
          have c4 := b1.cell 4
          have c5 := b1.cell 5
          have c6 := b1.cell 6
          have c7 := b1.cell 7
          have c8 := b1.cell 8
          simp only [headC, List.getElem?_toArray, List.getElem?_cons_zero, List.getElem?_cons_succ] at c0 c1 c2 c3 c4 c5 c6 c7 c8
          have r0 := b2.cell 0
          have f0 := b2.frozen 0
          have r1 := b2.cell 1
          have f1 := b2.frozen 1
          have r2 := b2.cell 2
          have f2 := b2.frozen 2
          have r3 := b2.cell 3
          have f3 := b2.frozen 3
          have r4 := b2.cell 4
          have f4 := b2.frozen 4
          have r5 := b2.cell 5
          have f5 := b2.frozen 5
          have r6 := b2.cell 6
          have f6 := b2.frozen 6
          have r7 := b2.cell 7
          have f7 := b2.frozen 7
          have r8 := b2.cell 8
          have f8 := b2.frozen 8
          simp only [headC, zeroH, List.getElem?_toArray, List.getElem?_cons_zero, List.getElem?_cons_succ] at r0 r1 r2 r3 r4 r5 r6 r7 r8
          clear b1 b2
          go_wp2
          refine bodyPost_ret (ret_headB rfl _ _ (w.heap.size + 1) _ rfl rfl hj (blk9 hI.out.1.2.2 _ _ _ _ _ _ _ _ _)) rfl ?_
          exact ⟨by rw [E.out]; rfl, kept9 hI.out.1.1 (by omega) _ _ _ _ _ _ _ _ _⟩
  · have HV4 := Lib.hid hv4
    have v4 : (str (V 4)).toList.isEmpty = false := by rw [str_empty]; simpa using hv4
    clear hv4
    by_cases hv5 : V 5 = []
    · have HV5 := Lib.hid hv5
      have v5 : (str (V 5)).toList.isEmpty = true := by rw [str_empty]; simpa using hv5
      clear hv5
      go_enter Tryd.func11, Tryd.ntmps11
      go_wp2_with fail
      have HM0 : Hid (Mid w ((w.alloc (.cells (headC h) 25)).alloc (.cells (headC zeroH) 25)) h ∧ ((w.alloc (.cells (headC h) 25)).alloc (.cells (headC zeroH) 25)).heap.size = w.heap.size + 2) := by
        have b1 := Blk.new (w.alloc (.cells (headC h) 25)) 25 (headC zeroH)
        rw [World.size_alloc] at b1
        exact Lib.hid ⟨⟨((Below.refl _ w).alloc (Nat.le_refl _) _).alloc (by simp) _, (Blk.new w 25 (headC h)).alloc _, b1⟩, by simp⟩
      simp only [headC, zeroH] at HM0
      obtain ⟨W1, hW1⟩ : ∃ W1, (w.alloc (.cells #[.string (str h.name), .string (str h.link), .int .u8 (h.kind.toNat : Int), .int .i64 h.mode, .int .i64 h.uid, .int .i64 h.gid, .int .i64 h.time, .int .i64 h.size, .bool h.gnu] 25)).alloc (.cells #[.string (str []), .string (str []), .int .u8 ((0 : UInt8).toNat : Int), .int .i64 0, .int .i64 0, .int .i64 0, .int .i64 0, .int .i64 0, .bool false] 25) = W1 := ⟨_, rfl⟩
      rw [hW1] at HM0
      have hW1' : (w.alloc (.cells #[.string (str h.name), .string (str h.link), .int .u8 (h.kind.toNat : Int), .int .i64 h.mode, .int .i64 h.uid, .int .i64 h.gid, .int .i64 h.time, .int .i64 h.size, .bool h.gnu] 25)).alloc (.cells #[.string ⟨#[]⟩, .string ⟨#[]⟩, .int .u8 0, .int .i64 0, .int .i64 0, .int .i64 0, .int .i64 0, .int .i64 0, .bool false] 25) = W1 := hW1
      rw [hW1']
      clear hW1 hW1'
      refine (CV.out 4 _ HM0.out.1.1).mono ?_
      rintro e w1 ⟨rfl, rfl⟩
      have c0 := HM0.out.1.2.1.cell 0
      have f0 := HM0.out.1.2.1.frozen 0
      simp only [headC, List.getElem?_toArray, List.getElem?_cons_zero] at c0
      go_wp2_with fail
      obtain ⟨W2, hW2⟩ : ∃ W2, W1.setCell ⟨w.heap.size, 0, none⟩ (.string (str (V 4))) = W2 := ⟨_, rfl⟩
      have HM2 : Hid (Mid w W2 { h with name := textD1 (V 4) h.name } ∧ W2.heap.size = w.heap.size + 2) := Lib.hid (by
        rw [show textD1 (V 4) h.name = V 4 from if_neg HV4.out, ← hW2]
        exact ⟨HM0.out.1.put ((Kept.refl (oneB w.heap.size) _).setCell (a := ⟨w.heap.size, 0, none⟩) (.inr rfl) _) (HM0.out.1.2.1.set 0 _ (by show 0 < 9; decide)), by rw [World.size_setCell]; exact HM0.out.2⟩)
      rw [hW2]
      clear HM0 hW2 c0 f0
      refine (CV.out 5 _ HM2.out.1.1).mono ?_
      rintro e w3 ⟨rfl, rfl⟩
      have c0 := HM2.out.1.2.1.cell 1
      have f0 := HM2.out.1.2.1.frozen 1
      simp only [headC, List.getElem?_toArray, List.getElem?_cons_zero, List.getElem?_cons_succ] at c0
      have hsz := HM2.out.2
      go_wp2_with fail
      have HM3 : Hid (Mid w W2 (textH V h) ∧ W2.heap.size = w.heap.size + 2) := Lib.hid (by unfold textH; rw [show textD1 (V 5) h.link = h.link from if_pos HV5.out]; exact HM2.out)
      obtain ⟨W3, hW3⟩ : ∃ W3, W2 = W3 := ⟨_, rfl⟩
      rw [hW3] at HM3 ⊢
      have hsz3 := HM3.out.2
      have HL0 : Hid (LoopD w ((W3.alloc (.cells keysC 9)).alloc (.cells (placesC w.heap.size) 50)) V h 0 (textH V h)) := Lib.hid (by
        have hk := (Blk.new W3 9 keysC).alloc (.cells (placesC w.heap.size) 50)
        have hp := Blk.new (W3.alloc (.cells keysC 9)) 50 (placesC w.heap.size)
        rw [World.size_alloc, hsz3] at hp
        rw [hsz3] at hk
        exact ⟨HM3.out.1.below (((Below.refl _ _).alloc (Nat.le_refl _) _).alloc (by simp) _), hk, hp, rfl⟩)
      clear HM2 HM3 hW3 hsz c0 f0
      simp only [keysC, placesC] at HL0
      obtain ⟨W4, hW4⟩ : ∃ W4, (W3.alloc (.cells #[.string (str (keyT 0)), .string (str (keyT 1)), .string (str (keyT 2)), .string (str (keyT 3))] 9)).alloc (.cells #[.pointer (some ⟨w.heap.size, 4, none⟩), .pointer (some ⟨w.heap.size, 5, none⟩), .pointer (some ⟨w.heap.size, 6, none⟩), .pointer (some ⟨w.heap.size, 7, none⟩)] 50) = W4 := ⟨_, rfl⟩
      rw [hW4] at HL0
      have hW4' : (W3.alloc (.cells #[.string ⟨#[117, 105, 100]⟩, .string ⟨#[103, 105, 100]⟩, .string ⟨#[109, 116, 105, 109, 101]⟩, .string ⟨#[115, 105, 122, 101]⟩] 9)).alloc (.cells #[.pointer (some ⟨w.heap.size, 4, none⟩), .pointer (some ⟨w.heap.size, 5, none⟩), .pointer (some ⟨w.heap.size, 6, none⟩), .pointer (some ⟨w.heap.size, 7, none⟩)] 50) = W4 := hW4
      rw [hW4']
      clear hW4 hW4' hsz3
      go_loopw [12] (fun i wr => ∃ (j : Nat) (hj : HeadV), j ≤ 4 ∧ i = .int .i64 (j : Int) ∧ Hid (LoopD w wr V h j hj)) (fun i _ => 4 - (RowKit.intOf i).toNat)
      case atStart => exact ⟨0, textH V h, by omega, rfl, HL0⟩
      case round =>
        obtain ⟨j, hj, hj4, rfl, hI⟩ := hrel
        by_cases hlt : j < 4
        · have hltz : (j : Int) < 4 := by omega
          have k0 := hI.out.2.1.cell j
          rw [keys_cell hlt] at k0
          have p0 := hI.out.2.2.1.cell j
          rw [places_cell _ hlt] at p0
          have g0 := hI.out.1.2.1.cell (4 + j)
          rw [num_cell hj hlt] at g0
          have g1 := hI.out.1.2.1.frozen (4 + j)
          have HLT := Lib.hid hlt
          have hkey := key_is hlt
          go_wp2_with fail
          refine (CV.out j _ hI.out.1.1).mono ?_
          rintro e w5 ⟨rfl, rfl⟩
          have HLV := Lib.hid (HL.out j (by omega))
          by_cases hv : V j = []
          · have v1 : (str (V j)).toList.isEmpty = true := by rw [str_empty]; simpa using hv
            have HN := Lib.hid (hI.out.skip hlt hv)
            clear hv
            go_wp2
            go_roundw
            case rel => exact ⟨j + 1, hj, by omega, by go_num, HN⟩
            case measure => simp [RowKit.intOf]; omega
          · have v1 : (str (V j)).toList.isEmpty = false := by rw [str_empty]; simpa using hv
            have HV := Lib.hid hv
            have hw := fun w => whole_any (str (V j)) w
            have hs := fun w => rsec_any (str (V j)) w (by rw [str_size]; exact HLV.out)
            simp only [str_data, wholeV_eq] at hw hs
            clear hv
            by_cases hj2 : j = 2
            · rw [decide_eq_true hj2] at hkey
              have HR : Hid (readD (decide (j = 2)) (V j) = secD (V j)) := Lib.hid (by rw [decide_eq_true hj2]; rfl)
              clear hj2
              cases hz : secD (V j) with
              | none =>
                have HF : Hid (applyV V h = (zeroH, 4)) := Lib.hid (apply_fail hI.out.2.2.2 hlt (read_none HV.out (by rw [HR.out, hz])))
                rw [hz] at hs
                clear hz
                have HW := Lib.hid hw
                have HSS := Lib.hid hs
                clear hw hs
                go_wp2_with fail
                refine (HW.out _).mono ?_
                rintro e w6 ⟨rfl, rfl⟩
                go_wp2_with fail
                refine (HSS.out _).mono ?_
                rintro e w7 ⟨rfl, rfl⟩
                have b2 := hI.out.1.2.2
                have r0 := b2.cell 0
                have f0 := b2.frozen 0
                have r1 := b2.cell 1
                have f1 := b2.frozen 1
                have r2 := b2.cell 2
                have f2 := b2.frozen 2
                have r3 := b2.cell 3
                have f3 := b2.frozen 3
                have r4 := b2.cell 4
                have f4 := b2.frozen 4
                have r5 := b2.cell 5
                have f5 := b2.frozen 5
                have r6 := b2.cell 6
                have f6 := b2.frozen 6
                have r7 := b2.cell 7
                have f7 := b2.frozen 7
                have r8 := b2.cell 8
                have f8 := b2.frozen 8
                simp only [headC, zeroH, List.getElem?_toArray, List.getElem?_cons_zero, List.getElem?_cons_succ] at r0 r1 r2 r3 r4 r5 r6 r7 r8
                clear b2
                go_wp2
                refine bodyPost_ret (ret_headB rfl _ _ (w.heap.size + 1) _ rfl rfl zeroH (blk9 hI.out.1.2.2 _ _ _ _ _ _ _ _ _)) rfl ?_
                exact ⟨by rw [← HU.out, HF.out]; rfl, kept9 hI.out.1.1 (by omega) _ _ _ _ _ _ _ _ _⟩
              | some N =>
                have HN := Lib.hid (hI.out.put hlt HV.out (by rw [HR.out, hz]))
                rw [hz] at hs
                clear hz
                have HW := Lib.hid hw
                have HSS := Lib.hid hs
                clear hw hs
                go_wp2_with fail
                refine (HW.out _).mono ?_
                rintro e w6 ⟨rfl, rfl⟩
                go_wp2_with fail
                refine (HSS.out _).mono ?_
                rintro e w7 ⟨rfl, rfl⟩
                rw [show natO (some N) = (N : Int) from rfl]
                go_wp2
                go_roundw
                case rel => exact ⟨j + 1, _, by omega, by go_num, HN⟩
                case measure => simp [RowKit.intOf]; omega
            · rw [decide_eq_false hj2] at hkey
              have HR : Hid (readD (decide (j = 2)) (V j) = wholeD (V j)) := Lib.hid (by rw [decide_eq_false hj2]; rfl)
              clear hj2 hs
              cases hz : wholeD (V j) with
              | none =>
                have HF : Hid (applyV V h = (zeroH, 4)) := Lib.hid (apply_fail hI.out.2.2.2 hlt (read_none HV.out (by rw [HR.out, hz])))
                rw [hz] at hw
                clear hz
                have HW := Lib.hid hw
                clear hw
                go_wp2_with fail
                refine (HW.out _).mono ?_
                rintro e w6 ⟨rfl, rfl⟩
                have b2 := hI.out.1.2.2
                have r0 := b2.cell 0
                have f0 := b2.frozen 0
                have r1 := b2.cell 1
                have f1 := b2.frozen 1
                have r2 := b2.cell 2
                have f2 := b2.frozen 2
                have r3 := b2.cell 3
                have f3 := b2.frozen 3
                have r4 := b2.cell 4
                have f4 := b2.frozen 4
                have r5 := b2.cell 5
                have f5 := b2.frozen 5
                have r6 := b2.cell 6
                have f6 := b2.frozen 6
                have r7 := b2.cell 7
                have f7 := b2.frozen 7
                have r8 := b2.cell 8
                have f8 := b2.frozen 8
                simp only [headC, zeroH, List.getElem?_toArray, List.getElem?_cons_zero, List.getElem?_cons_succ] at r0 r1 r2 r3 r4 r5 r6 r7 r8
                clear b2
                go_wp2
                refine bodyPost_ret (ret_headB rfl _ _ (w.heap.size + 1) _ rfl rfl zeroH (blk9 hI.out.1.2.2 _ _ _ _ _ _ _ _ _)) rfl ?_
                exact ⟨by rw [← HU.out, HF.out]; rfl, kept9 hI.out.1.1 (by omega) _ _ _ _ _ _ _ _ _⟩
              | some N =>
                have HN := Lib.hid (hI.out.put hlt HV.out (by rw [HR.out, hz]))
                rw [hz] at hw
                clear hz
                have HW := Lib.hid hw
                clear hw
                go_wp2_with fail
                refine (HW.out _).mono ?_
                rintro e w6 ⟨rfl, rfl⟩
                rw [show natO (some N) = (N : Int) from rfl]
                go_wp2
                go_roundw
                case rel => exact ⟨j + 1, _, by omega, by go_num, HN⟩
                case measure => simp [RowKit.intOf]; omega
        · obtain rfl : j = 4 := by omega
          have E : Hid (U = (hj, 0)) := Lib.hid (by rw [← HU.out]; exact apply_good hI.out.2.2.2)
          have b1 := hI.out.1.2.1
          have b2 := hI.out.1.2.2
          have c0 := b1.cell 0
          have c1 := b1.cell 1
          have c2 := b1.cell 2
          have c3 := b1.cell 3
          have c4 := b1.cell 4
          have c5 := b1.cell 5
          have c6 := b1.cell 6
          have c7 := b1.cell 7
          have c8 := b1.cell 8
          simp only [headC, List.getElem?_toArray, List.getElem?_cons_zero, List.getElem?_cons_succ] at c0 c1 c2 c3 c4 c5 c6 c7 c8
          have r0 := b2.cell 0
          have f0 := b2.frozen 0
          have r1 := b2.cell 1
          have f1 := b2.frozen 1
          have r2 := b2.cell 2
          have f2 := b2.frozen 2
          have r3 := b2.cell 3
          have f3 := b2.frozen 3
          have r4 := b2.cell 4
          have f4 := b2.frozen 4
          have r5 := b2.cell 5
          have f5 := b2.frozen 5
          have r6 := b2.cell 6
          have f6 := b2.frozen 6
          have r7 := b2.cell 7
          have f7 := b2.frozen 7
          have r8 := b2.cell 8
          have f8 := b2.frozen 8
          simp only [headC, zeroH, List.getElem?_toArray, List.getElem?_cons_zero, List.getElem?_cons_succ] at r0 r1 r2 r3 r4 r5 r6 r7 r8
          clear b1 b2
          go_wp2
          refine bodyPost_ret (ret_headB rfl _ _ (w.heap.size + 1) _ rfl rfl hj (blk9 hI.out.1.2.2 _ _ _ _ _ _ _ _ _)) rfl ?_
          exact ⟨by rw [E.out]; rfl, kept9 hI.out.1.1 (by omega) _ _ _ _ _ _ _ _ _⟩
    · have HV5 := Lib.hid hv5
      have v5 : (str (V 5)).toList.isEmpty = false := by rw [str_empty]; simpa using hv5
      clear hv5
      go_enter Tryd.func11, Tryd.ntmps11
      go_wp2_with fail
      have HM0 : Hid (Mid w ((w.alloc (.cells (headC h) 25)).alloc (.cells (headC zeroH) 25)) h ∧ ((w.alloc (.cells (headC h) 25)).alloc (.cells (headC zeroH) 25)).heap.size = w.heap.size + 2) := by
        have b1 := Blk.new (w.alloc (.cells (headC h) 25)) 25 (headC zeroH)
        rw [World.size_alloc] at b1
        exact Lib.hid ⟨⟨((Below.refl _ w).alloc (Nat.le_refl _) _).alloc (by simp) _, (Blk.new w 25 (headC h)).alloc _, b1⟩, by simp⟩
      simp only [headC, zeroH] at HM0
      obtain ⟨W1, hW1⟩ : ∃ W1, (w.alloc (.cells #[.string (str h.name), .string (str h.link), .int .u8 (h.kind.toNat : Int), .int .i64 h.mode, .int .i64 h.uid, .int .i64 h.gid, .int .i64 h.time, .int .i64 h.size, .bool h.gnu] 25)).alloc (.cells #[.string (str []), .string (str []), .int .u8 ((0 : UInt8).toNat : Int), .int .i64 0, .int .i64 0, .int .i64 0, .int .i64 0, .int .i64 0, .bool false] 25) = W1 := ⟨_, rfl⟩
      rw [hW1] at HM0
      have hW1' : (w.alloc (.cells #[.string (str h.name), .string (str h.link), .int .u8 (h.kind.toNat : Int), .int .i64 h.mode, .int .i64 h.uid, .int .i64 h.gid, .int .i64 h.time, .int .i64 h.size, .bool h.gnu] 25)).alloc (.cells #[.string ⟨#[]⟩, .string ⟨#[]⟩, .int .u8 0, .int .i64 0, .int .i64 0, .int .i64 0, .int .i64 0, .int .i64 0, .bool false] 25) = W1 := hW1
      rw [hW1']
      clear hW1 hW1'
      refine (CV.out 4 _ HM0.out.1.1).mono ?_
      rintro e w1 ⟨rfl, rfl⟩
      have c0 := HM0.out.1.2.1.cell 0
      have f0 := HM0.out.1.2.1.frozen 0
      simp only [headC, List.getElem?_toArray, List.getElem?_cons_zero] at c0
      go_wp2_with fail
      obtain ⟨W2, hW2⟩ : ∃ W2, W1.setCell ⟨w.heap.size, 0, none⟩ (.string (str (V 4))) = W2 := ⟨_, rfl⟩
      have HM2 : Hid (Mid w W2 { h with name := textD1 (V 4) h.name } ∧ W2.heap.size = w.heap.size + 2) := Lib.hid (by
        rw [show textD1 (V 4) h.name = V 4 from if_neg HV4.out, ← hW2]
        exact ⟨HM0.out.1.put ((Kept.refl (oneB w.heap.size) _).setCell (a := ⟨w.heap.size, 0, none⟩) (.inr rfl) _) (HM0.out.1.2.1.set 0 _ (by show 0 < 9; decide)), by rw [World.size_setCell]; exact HM0.out.2⟩)
      rw [hW2]
      clear HM0 hW2 c0 f0
      refine (CV.out 5 _ HM2.out.1.1).mono ?_
      rintro e w3 ⟨rfl, rfl⟩
      have c0 := HM2.out.1.2.1.cell 1
      have f0 := HM2.out.1.2.1.frozen 1
      simp only [headC, List.getElem?_toArray, List.getElem?_cons_zero, List.getElem?_cons_succ] at c0
      have hsz := HM2.out.2
      go_wp2_with fail
      obtain ⟨W3, hW3⟩ : ∃ W3, W2.setCell ⟨w.heap.size, 1, none⟩ (.string (str (V 5))) = W3 := ⟨_, rfl⟩
      have HM3 : Hid (Mid w (W2.setCell ⟨w.heap.size, 1, none⟩ (.string (str (V 5)))) (textH V h) ∧ (W2.setCell ⟨w.heap.size, 1, none⟩ (.string (str (V 5)))).heap.size = w.heap.size + 2) := Lib.hid (by
        unfold textH
        rw [show textD1 (V 5) h.link = V 5 from if_neg HV5.out]
        exact ⟨HM2.out.1.put (h' := { h with name := textD1 (V 4) h.name, link := V 5 }) ((Kept.refl (oneB w.heap.size) _).setCell (a := ⟨w.heap.size, 1, none⟩) (.inr rfl) _) (HM2.out.1.2.1.set 1 _ (by show 1 < 9; decide)), by rw [World.size_setCell]; exact HM2.out.2⟩)
      rw [hW3] at HM3 ⊢
      have hsz3 := HM3.out.2
      have HL0 : Hid (LoopD w ((W3.alloc (.cells keysC 9)).alloc (.cells (placesC w.heap.size) 50)) V h 0 (textH V h)) := Lib.hid (by
        have hk := (Blk.new W3 9 keysC).alloc (.cells (placesC w.heap.size) 50)
        have hp := Blk.new (W3.alloc (.cells keysC 9)) 50 (placesC w.heap.size)
        rw [World.size_alloc, hsz3] at hp
        rw [hsz3] at hk
        exact ⟨HM3.out.1.below (((Below.refl _ _).alloc (Nat.le_refl _) _).alloc (by simp) _), hk, hp, rfl⟩)
      clear HM2 HM3 hW3 hsz c0 f0
      simp only [keysC, placesC] at HL0
      obtain ⟨W4, hW4⟩ : ∃ W4, (W3.alloc (.cells #[.string (str (keyT 0)), .string (str (keyT 1)), .string (str (keyT 2)), .string (str (keyT 3))] 9)).alloc (.cells #[.pointer (some ⟨w.heap.size, 4, none⟩), .pointer (some ⟨w.heap.size, 5, none⟩), .pointer (some ⟨w.heap.size, 6, none⟩), .pointer (some ⟨w.heap.size, 7, none⟩)] 50) = W4 := ⟨_, rfl⟩
      rw [hW4] at HL0
      have hW4' : (W3.alloc (.cells #[.string ⟨#[117, 105, 100]⟩, .string ⟨#[103, 105, 100]⟩, .string ⟨#[109, 116, 105, 109, 101]⟩, .string ⟨#[115, 105, 122, 101]⟩] 9)).alloc (.cells #[.pointer (some ⟨w.heap.size, 4, none⟩), .pointer (some ⟨w.heap.size, 5, none⟩), .pointer (some ⟨w.heap.size, 6, none⟩), .pointer (some ⟨w.heap.size, 7, none⟩)] 50) = W4 := hW4
      rw [hW4']
      clear hW4 hW4' hsz3
      go_loopw [12] (fun i wr => ∃ (j : Nat) (hj : HeadV), j ≤ 4 ∧ i = .int .i64 (j : Int) ∧ Hid (LoopD w wr V h j hj)) (fun i _ => 4 - (RowKit.intOf i).toNat)
      case atStart => exact ⟨0, textH V h, by omega, rfl, HL0⟩
      case round =>
        obtain ⟨j, hj, hj4, rfl, hI⟩ := hrel
        by_cases hlt : j < 4
        · have hltz : (j : Int) < 4 := by omega
          have k0 := hI.out.2.1.cell j
          rw [keys_cell hlt] at k0
          have p0 := hI.out.2.2.1.cell j
          rw [places_cell _ hlt] at p0
          have g0 := hI.out.1.2.1.cell (4 + j)
          rw [num_cell hj hlt] at g0
          have g1 := hI.out.1.2.1.frozen (4 + j)
          have HLT := Lib.hid hlt
          have hkey := key_is hlt
          go_wp2_with fail
          refine (CV.out j _ hI.out.1.1).mono ?_
          rintro e w5 ⟨rfl, rfl⟩
          have HLV := Lib.hid (HL.out j (by omega))
          by_cases hv : V j = []
          · have v1 : (str (V j)).toList.isEmpty = true := by rw [str_empty]; simpa using hv
            have HN := Lib.hid (hI.out.skip hlt hv)
            clear hv
            go_wp2
            go_roundw
            case rel => exact ⟨j + 1, hj, by omega, by go_num, HN⟩
            case measure => simp [RowKit.intOf]; omega
          · have v1 : (str (V j)).toList.isEmpty = false := by rw [str_empty]; simpa using hv
            have HV := Lib.hid hv
            have hw := fun w => whole_any (str (V j)) w
            have hs := fun w => rsec_any (str (V j)) w (by rw [str_size]; exact HLV.out)
            simp only [str_data, wholeV_eq] at hw hs
            clear hv
            by_cases hj2 : j = 2
            · rw [decide_eq_true hj2] at hkey
              have HR : Hid (readD (decide (j = 2)) (V j) = secD (V j)) := Lib.hid (by rw [decide_eq_true hj2]; rfl)
              clear hj2
              cases hz : secD (V j) with
              | none =>
                have HF : Hid (applyV V h = (zeroH, 4)) := Lib.hid (apply_fail hI.out.2.2.2 hlt (read_none HV.out (by rw [HR.out, hz])))
                rw [hz] at hs
                clear hz
                have HW := Lib.hid hw
                have HSS := Lib.hid hs
                clear hw hs
                go_wp2_with fail
                refine (HW.out _).mono ?_
                rintro e w6 ⟨rfl, rfl⟩
                go_wp2_with fail
                refine (HSS.out _).mono ?_
                rintro e w7 ⟨rfl, rfl⟩
                have b2 := hI.out.1.2.2
                have r0 := b2.cell 0
                have f0 := b2.frozen 0
                have r1 := b2.cell 1
                have f1 := b2.frozen 1
                have r2 := b2.cell 2
                have f2 := b2.frozen 2
                have r3 := b2.cell 3
                have f3 := b2.frozen 3
                have r4 := b2.cell 4
                have f4 := b2.frozen 4
                have r5 := b2.cell 5
                have f5 := b2.frozen 5
                have r6 := b2.cell 6
                have f6 := b2.frozen 6
                have r7 := b2.cell 7
                have f7 := b2.frozen 7
                have r8 := b2.cell 8
                have f8 := b2.frozen 8
                simp only [headC, zeroH, List.getElem?_toArray, List.getElem?_cons_zero, List.getElem?_cons_succ] at r0 r1 r2 r3 r4 r5 r6 r7 r8
                clear b2
                go_wp2
                refine bodyPost_ret (ret_headB rfl _ _ (w.heap.size + 1) _ rfl rfl zeroH (blk9 hI.out.1.2.2 _ _ _ _ _ _ _ _ _)) rfl ?_
                exact ⟨by rw [← HU.out, HF.out]; rfl, kept9 hI.out.1.1 (by omega) _ _ _ _ _ _ _ _ _⟩
              | some N =>
                have HN := Lib.hid (hI.out.put hlt HV.out (by rw [HR.out, hz]))
                rw [hz] at hs
                clear hz
                have HW := Lib.hid hw
                have HSS := Lib.hid hs
                clear hw hs
                go_wp2_with fail
                refine (HW.out _).mono ?_
                rintro e w6 ⟨rfl, rfl⟩
                go_wp2_with fail
                refine (HSS.out _).mono ?_
                rintro e w7 ⟨rfl, rfl⟩
                rw [show natO (some N) = (N : Int) from rfl]
                go_wp2
                go_roundw
                case rel => exact ⟨j + 1, _, by omega, by go_num, HN⟩
                case measure => simp [RowKit.intOf]; omega
            · rw [decide_eq_false hj2] at hkey
              have HR : Hid (readD (decide (j = 2)) (V j) = wholeD (V j)) := Lib.hid (by rw [decide_eq_false hj2]; rfl)
              clear hj2 hs
              cases hz : wholeD (V j) with
              | none =>
                have HF : Hid (applyV V h = (zeroH, 4)) := Lib.hid (apply_fail hI.out.2.2.2 hlt (read_none HV.out (by rw [HR.out, hz])))
                rw [hz] at hw
                clear hz
                have HW := Lib.hid hw
                clear hw
                go_wp2_with fail
                refine (HW.out _).mono ?_
                rintro e w6 ⟨rfl, rfl⟩
                have b2 := hI.out.1.2.2
                have r0 := b2.cell 0
                have f0 := b2.frozen 0
                have r1 := b2.cell 1
                have f1 := b2.frozen 1
                have r2 := b2.cell 2
                have f2 := b2.frozen 2
                have r3 := b2.cell 3
                have f3 := b2.frozen 3
                have r4 := b2.cell 4
                have f4 := b2.frozen 4
                have r5 := b2.cell 5
                have f5 := b2.frozen 5
                have r6 := b2.cell 6
                have f6 := b2.frozen 6
                have r7 := b2.cell 7
                have f7 := b2.frozen 7
                have r8 := b2.cell 8
                have f8 := b2.frozen 8
                simp only [headC, zeroH, List.getElem?_toArray, List.getElem?_cons_zero, List.getElem?_cons_succ] at r0 r1 r2 r3 r4 r5 r6 r7 r8
                clear b2
                go_wp2
                refine bodyPost_ret (ret_headB rfl _ _ (w.heap.size + 1) _ rfl rfl zeroH (blk9 hI.out.1.2.2 _ _ _ _ _ _ _ _ _)) rfl ?_
                exact ⟨by rw [← HU.out, HF.out]; rfl, kept9 hI.out.1.1 (by omega) _ _ _ _ _ _ _ _ _⟩
              | some N =>
                have HN := Lib.hid (hI.out.put hlt HV.out (by rw [HR.out, hz]))
                rw [hz] at hw
                clear hz
                have HW := Lib.hid hw
                clear hw
                go_wp2_with fail
                refine (HW.out _).mono ?_
                rintro e w6 ⟨rfl, rfl⟩
                rw [show natO (some N) = (N : Int) from rfl]
                go_wp2
                go_roundw
                case rel => exact ⟨j + 1, _, by omega, by go_num, HN⟩
                case measure => simp [RowKit.intOf]; omega
        · obtain rfl : j = 4 := by omega
          have E : Hid (U = (hj, 0)) := Lib.hid (by rw [← HU.out]; exact apply_good hI.out.2.2.2)
          have b1 := hI.out.1.2.1
          have b2 := hI.out.1.2.2
          have c0 := b1.cell 0
          have c1 := b1.cell 1
          have c2 := b1.cell 2
          have c3 := b1.cell 3
          have c4 := b1.cell 4
          have c5 := b1.cell 5
          have c6 := b1.cell 6
          have c7 := b1.cell 7
          have c8 := b1.cell 8
          simp only [headC, List.getElem?_toArray, List.getElem?_cons_zero, List.getElem?_cons_succ] at c0 c1 c2 c3 c4 c5 c6 c7 c8
          have r0 := b2.cell 0
          have f0 := b2.frozen 0
          have r1 := b2.cell 1
          have f1 := b2.frozen 1
          have r2 := b2.cell 2
          have f2 := b2.frozen 2
          have r3 := b2.cell 3
          have f3 := b2.frozen 3
          have r4 := b2.cell 4
          have f4 := b2.frozen 4
          have r5 := b2.cell 5
          have f5 := b2.frozen 5
          have r6 := b2.cell 6
          have f6 := b2.frozen 6
          have r7 := b2.cell 7
          have f7 := b2.frozen 7
          have r8 := b2.cell 8
          have f8 := b2.frozen 8
          simp only [headC, zeroH, List.getElem?_toArray, List.getElem?_cons_zero, List.getElem?_cons_succ] at r0 r1 r2 r3 r4 r5 r6 r7 r8
          clear b1 b2
          go_wp2
          refine bodyPost_ret (ret_headB rfl _ _ (w.heap.size + 1) _ rfl rfl hj (blk9 hI.out.1.2.2 _ _ _ _ _ _ _ _ _)) rfl ?_
          exact ⟨by rw [E.out]; rfl, kept9 hI.out.1.1 (by omega) _ _ _ _ _ _ _ _ _⟩
end Go.Proofs.YtfmhdkemigpjjaaDoor.Attr
