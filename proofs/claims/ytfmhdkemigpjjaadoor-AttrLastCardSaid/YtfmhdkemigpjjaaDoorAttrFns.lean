/- Layer attr's small functions, by contracts: digits, numbers, times; a text, a number changed in place. -/
import Derived.Test.YtfmhdkemigpjjaaDoorAttrPlain
import Derived.Test.YtfmhdkemigpjjaaDoorAttTrim
import Derived.Test.YtfmhdkemigpjjaaDoorAttAtoi
import Derived.Test.YtfmhdkemigpjjaaDoorPathStr
import Derived.Test.YtfmhdkemigpjjaaDoorNum
import Derived.Test.YtfmhdkemigpjjaaDoorBlk
import Derived.Test.YtfmhdkemigpjjaaDoorBytStr
import Derived.Deep.Draws
import Derived.BigCall
import Derived.Shelf.RegionOpenPlain
namespace Go.Proofs.YtfmhdkemigpjjaaDoor.Attr
open Go.ChangeShapes Go.WideShapes Go.ChangeAt Go.RowKit Go.Shelf Go.Proofs.YtfmhdkemigpjjaaDoor.Base Go.Proofs.YtfmhdkemigpjjaaDoor.Byt Go.Proofs.YtfmhdkemigpjjaaDoor.Txt Go.Proofs.YtfmhdkemigpjjaaDoor.Rec Go.Proofs.YtfmhdkemigpjjaaDoor.Num Go.Proofs.YtfmhdkemigpjjaaDoor.Bk Go.Proofs.YtfmhdkemigpjjaaDoor.Hp Go.Lib
set_option linter.unusedVariables false
set_option maxRecDepth 100000

/-- at the first byte c -/
def cutC (c : UInt8) (l : List UInt8) : List UInt8 × List UInt8 × Bool :=
  if 0 ≤ Lib.indexByte l c then (l.take (Lib.indexByte l c).toNat, l.drop ((Lib.indexByte l c).toNat + 1), true) else (l, [], false)
theorem cutC_len (c : UInt8) (l : List UInt8) : (cutC c l).1.length ≤ l.length ∧ (cutC c l).2.1.length ≤ l.length := by
  unfold cutC
  split
  · simp only [List.length_take, List.length_drop]; omega
  · simp
theorem slCutC_any (c : UInt8) (l : List UInt8) (w : World) (hm : l.length ≤ 140737488351232) :
    Calls Tryd.prog 30 #[.string (str l), .string ⟨#[c]⟩] w fun e w' => e = .returned (.tuple #[.string (str (cutC c l).1), .string (str (cutC c l).2.1), .bool (cutC c l).2.2]) ∧ ∃ n, w' = w.drewN n := by
  have hidx := Any.stringslite_Index_one Tryd.laysIndex (str l) c w
  rw [str_data] at hidx
  have hs : (str l).size = l.length := str_size l
  have hone : (⟨#[c]⟩ : ByteArray).size = 1 := rfl
  unfold cutC
  by_cases h : 0 ≤ Lib.indexByte l c
  · obtain ⟨k, hk⟩ : ∃ k : Nat, Lib.indexByte l c = k := ⟨(Lib.indexByte l c).toNat, by omega⟩
    have hlt := (List.getElem?_eq_some_iff.1 (Lib.indexByte_some hk).1).1
    rw [if_pos h, hk, Int.toNat_natCast]
    rw [hk] at hidx
    clear h hk
    simp only
    have e1 : (str l).extract 0 k = str (l.take k) := str_take l k
    have e2 : (str l).extract (k + 1) (str l).size = str (l.drop (k + 1)) := str_drop l (k + 1) _ hs
    rw [← e1, ← e2]
    have c1 : (0 : Int) ≤ (k : Int) := by omega
    have c2 : (k : Int) ≤ ((str l).size : Int) := by omega
    have c3 : (0 : Int) ≤ (k : Int) + 1 := by omega
    have c4 : (k : Int) + 1 ≤ ((str l).size : Int) := by omega
    have c5 : ((str l).size : Int) ≤ 140737488351232 := by omega
    clear e1 e2
    have mixed : Tryd.prog.follows .mixedOrders = true := by kernel_rfl
    go_enter Tryd.func30, Tryd.ntmps30
    go_wp2_with (go_at_call 44; refine hidx.mono ?_; rintro e w' ⟨rfl, rfl⟩)
    go_region_o
    go_wp2
    go_ret3
    exact ⟨rfl, 1, rfl⟩
  · rw [if_neg h]
    have hn : Lib.indexByte l c = -1 := by have := Lib.indexByte_ge l c; omega
    rw [hn] at hidx
    clear h hn
    go_enter Tryd.func30, Tryd.ntmps30
    go_wp2_with (go_at_call 44; refine hidx.mono ?_; rintro e w' ⟨rfl, rfl⟩)
    go_ret3
    exact ⟨rfl, 0, rfl⟩
theorem cutAt_any (c : UInt8) (l : List UInt8) (w : World) (hm : l.length ≤ 140737488351232) :
    Calls Tryd.prog 25 #[.string (str l), .string ⟨#[c]⟩] w fun e w' => e = .returned (.tuple #[.string (str (cutC c l).1), .string (str (cutC c l).2.1), .bool (cutC c l).2.2]) ∧ ∃ n, w' = w.drewN n := by
  have hc := slCutC_any c l w hm
  go_enter Tryd.func25, Tryd.ntmps25
  go_wp2_with (go_at_call 30; refine hc.mono ?_; rintro e w' ⟨rfl, n, rfl⟩)
  go_ret3
  exact ⟨rfl, n, rfl⟩
theorem digits_any (l : List UInt8) (w : World) (hm : l.length ≤ 140737488351232) :
    Calls Tryd.prog 23 #[.string (str l)] w fun e w' => e = .returned (.bool (l.all isDig)) ∧ Below w.heap.size w w' := by
  have ht := Any.strings_Trim_laid Tryd.laysTrim (by kernel_rfl) (str l) ⟨#[48, 49, 50, 51, 52, 53, 54, 55, 56, 57]⟩ w (by rw [str_size]; omega) (by decide) (ascii_of_all (by decide))
  rw [str_data] at ht
  have hb : l.all isDig = decide (trimS l [48, 49, 50, 51, 52, 53, 54, 55, 56, 57] = []) := by
    rw [Bool.eq_iff_iff]
    simp only [decide_eq_true_eq, List.all_eq_true]
    exact (trim_dig l).symm
  obtain ⟨z, hz⟩ : ∃ z, trimS l [48, 49, 50, 51, 52, 53, 54, 55, 56, 57] = z := ⟨_, rfl⟩
  have ht : Calls Tryd.prog 27 #[.string (str l), .string ⟨#[48, 49, 50, 51, 52, 53, 54, 55, 56, 57]⟩] w fun e w' => e = .returned (.string (str z)) ∧ Below w.heap.size w w' := by
    rw [← hz]; exact ht
  rw [hb, hz, ← str_empty]
  clear hb hz
  go_enter Tryd.func23, Tryd.ntmps23
  go_wp2_with fail
  refine ht.mono ?_
  rintro e w1 ⟨rfl, hB⟩
  have HB := Lib.hid hB
  clear hB ht
  go_wp2
  go_ret
  exact ⟨rfl, HB.out⟩
theorem number_any (l : List UInt8) (w : World) (hm : l.length ≤ 140737488351232) :
    Calls Tryd.prog 16 #[.string (str l)] w fun e w' => e = .returned (wholeV (wholeD l)) ∧ Below w.heap.size w w' := by
  have hin := in_any (l.length : Int) 1 18 w
  have hs : (str l).size = l.length := str_size l
  have hs' : ((str l).size : Int) = (l.length : Int) := by rw [hs]
  by_cases h : 1 ≤ l.length ∧ l.length ≤ 18
  · rw [inB_true (by omega) (by omega)] at hin
    have hd := digits_any l w hm
    cases ha : l.all isDig with
    | false =>
      rw [ha] at hd
      rw [show wholeD l = none by unfold wholeD; rw [if_neg (by omega), ha]; rfl]
      clear ha h hm hs
      rw [← hs'] at hin
      clear hs'
      have HD := Lib.hid hd
      clear hd
      go_enter Tryd.func16, Tryd.ntmps16
      go_wp2_with fail
      refine hin.mono ?_
      rintro e w1 ⟨rfl, rfl⟩
      clear hin
      go_wp2_with fail
      refine HD.out.mono ?_
      rintro e w1 ⟨rfl, hB⟩
      have HB := Lib.hid hB
      clear hB
      go_wp2
      go_ret2
      exact ⟨rfl, HB.out⟩
    | true =>
      rw [ha] at hd
      rw [show wholeD l = some (valL l) by unfold wholeD; rw [if_neg (by omega), ha]; rfl]
      have hat := fun w => Any.strconv_Atoi Tryd.laysAtoi (str l) (valL l) (by rw [hs]; omega) (by rw [str_data]; exact atoi_dig l (by rintro rfl; simp at h) (by simpa using ha)) w
      have mixed : Tryd.prog.follows .mixedOrders = true := by kernel_rfl
      clear ha h hm hs
      rw [← hs'] at hin
      clear hs'
      have HD := Lib.hid hd
      have HA := Lib.hid hat
      clear hd hat
      obtain ⟨n, hn⟩ : ∃ n : Int, (valL l : Int) = n := ⟨_, rfl⟩
      rw [show wholeV (some (valL l)) = .tuple #[.int .i64 n, .bool true] by rw [← hn]; rfl]
      rw [hn] at HA
      clear hn
      go_enter Tryd.func16, Tryd.ntmps16
      go_wp2_with fail
      refine hin.mono ?_
      rintro e w1 ⟨rfl, rfl⟩
      clear hin
      go_wp2_with fail
      refine HD.out.mono ?_
      rintro e w1 ⟨rfl, hB⟩
      have HB := Lib.hid hB
      clear hB
      go_wp2_with fail
      refine (HA.out w1).mono ?_
      rintro e w2 ⟨rfl, t, ht⟩
      have hB2 : Below w1.heap.size w1 w2 := by rw [ht]; exact str_below _ _ _
      have HB2 := Lib.hid (HB.out.trans (hB2.mono HB.out.size))
      clear ht hB2
      go_wp2
      go_quiet_o (fail)
      go_wp2
      go_ret2
      exact ⟨rfl, below_drewN HB2.out _⟩
  · rw [inB_false (by omega)] at hin
    rw [show wholeD l = none by unfold wholeD; rw [if_pos (by omega)]]
    clear h hm hs
    rw [← hs'] at hin
    clear hs'
    go_enter Tryd.func16, Tryd.ntmps16
    go_wp2_with fail
    refine hin.mono ?_
    rintro e w1 ⟨rfl, rfl⟩
    go_wp2
    go_ret2
    exact ⟨rfl, Below.refl _ _⟩
def natO (o : Option Nat) : Int := match o with
  | some n => n
  | none => 0
theorem wholeV_eq (o : Option Nat) : wholeV o = .tuple #[.int .i64 (natO o), .bool o.isSome] := by cases o <;> rfl
theorem secD_cut (l : List UInt8) : secD l = if (cutC 46 l).2.1.all isDig then wholeD (cutC 46 l).1 else none := by
  unfold secD cutC
  by_cases h : 0 ≤ Lib.indexByte l 46
  · rw [if_pos h, if_pos h]
  · rw [if_neg h, if_neg h]
    rfl
theorem seconds_any (l : List UInt8) (w : World) (hm : l.length ≤ 140737488351232) :
    Calls Tryd.prog 17 #[.string (str l)] w fun e w' => e = .returned (wholeV (secD l)) ∧ Below w.heap.size w w' := by
  have hc := cutAt_any 46 l w hm
  obtain ⟨h1, h2⟩ := cutC_len 46 l
  rw [secD_cut]
  generalize cutC 46 l = C at hc h1 h2 ⊢
  obtain ⟨a, r, b⟩ := C
  simp only at hc h1 h2 ⊢
  have hd := fun w => digits_any r w (by omega)
  have hn := fun w => number_any a w (by omega)
  clear h1 h2 hm
  have HD := Lib.hid hd
  have HN := Lib.hid hn
  clear hd hn
  cases hr : r.all isDig with
  | false =>
    rw [hr] at HD
    clear hr
    go_enter Tryd.func17, Tryd.ntmps17
    go_wp2_with fail
    refine hc.mono ?_
    rintro e w1 ⟨rfl, n, rfl⟩
    go_wp2_with fail
    refine (HD.out _).mono ?_
    rintro e w2 ⟨rfl, hB⟩
    have HB : Hid (Below w.heap.size w w2) := Lib.hid ((below_drewN (Below.refl _ _) n).trans hB)
    clear hB
    go_wp2
    go_ret2
    exact ⟨rfl, HB.out⟩
  | true =>
    rw [hr] at HD
    clear hr
    rw [if_pos rfl, wholeV_eq]
    simp only [wholeV_eq] at HN
    generalize natO (wholeD a) = N at HN ⊢
    generalize (wholeD a).isSome = B at HN ⊢
    go_enter Tryd.func17, Tryd.ntmps17
    go_wp2_with fail
    refine hc.mono ?_
    rintro e w1 ⟨rfl, n, rfl⟩
    go_wp2_with fail
    refine (HD.out _).mono ?_
    rintro e w2 ⟨rfl, hB⟩
    have HB : Hid (Below w.heap.size w w2) := Lib.hid ((below_drewN (Below.refl _ _) n).trans hB)
    clear hB
    go_wp2_with fail
    refine (HN.out w2).mono ?_
    rintro e w3 ⟨rfl, hB⟩
    have HB3 : Hid (Below w.heap.size w w3) := Lib.hid (HB.out.trans (hB.mono HB.out.size))
    clear hB
    go_wp2
    go_ret2
    exact ⟨rfl, HB3.out⟩
/-- a text changed in place -/
theorem text_yes1 (v : List UInt8) (hv : v ≠ []) (b i : Nat) (t : TypeId) (cs : Array Value) (old : Value) (w : World) (h : Blk w b t cs) (hi : i < cs.size) (ho : cs[i]? = some old) :
    Calls Tryd.prog 14 #[.pointer (some ⟨b, i, none⟩), .string (str v)] w fun e w' => e = .returned (.tuple #[]) ∧ w' = w.setCell ⟨b, i, none⟩ (.string (str v)) := by
  have c0 := h.cell i
  rw [ho] at c0
  have f0 := h.frozen i
  have b1 : (str v).toList.isEmpty = false := by rw [str_empty]; simpa using hv
  clear h hi ho hv
  go_enter Tryd.func14, Tryd.ntmps14
  go_wp2
  go_end0
  exact ⟨rfl, rfl⟩
theorem text_no1 (a : Option Addr) (w : World) :
    Calls Tryd.prog 14 #[.pointer a, .string ⟨#[]⟩] w fun e w' => e = .returned (.tuple #[]) ∧ w = w' := by
  go_enter Tryd.func14, Tryd.ntmps14
  go_wp2
  go_end0
  exact ⟨rfl, rfl⟩
theorem changeText_any (v : List UInt8) (b i : Nat) (t : TypeId) (cs : Array Value) (old : List UInt8) (w : World) (h : Blk w b t cs) (hi : i < cs.size) (ho : cs[i]? = some (.string (str old))) :
    Calls Tryd.prog 14 #[.pointer (some ⟨b, i, none⟩), .string (str v)] w fun e w' => e = .returned (.tuple #[]) ∧ Blk w' b t (cs.set i (.string (str (textD1 v old))) hi) ∧ Kept (oneB b) w w' := by
  by_cases hv : v = []
  · subst hv
    refine (text_no1 _ w).mono ?_
    rintro e w' ⟨rfl, rfl⟩
    refine ⟨rfl, ?_, Kept.refl _ _⟩
    have e : cs.set i (.string (str (textD1 [] old))) hi = cs := by
      apply Array.ext (by simp)
      intro j h1 h2
      rw [Array.getElem_set]
      split
      · rename_i hij
        subst hij
        rw [Array.getElem?_eq_getElem hi] at ho
        exact (Option.some.inj ho).symm
      · rfl
    rw [e]
    exact h
  · refine (text_yes1 v hv b i t cs _ w h hi ho).mono ?_
    rintro e w' ⟨rfl, rfl⟩
    refine ⟨rfl, ?_, (Kept.refl (oneB b) _).setCell (a := ⟨b, i, none⟩) (.inr rfl) _⟩
    rw [show textD1 v old = v from if_neg hv]
    exact h.set i _ hi
/-- a number changed in place, as it is read by a function of numbers, or of times -/
def readV (time : Bool) : Value := .func (.func (if time then 17 else 16)) #[] #[]
theorem num_empty (time : Bool) (a : Option Addr) (w : World) :
    Calls Tryd.prog 15 #[.pointer a, .string ⟨#[]⟩, readV time] w fun e w' => e = .returned (.bool true) ∧ w = w' := by
  go_enter Tryd.func15, Tryd.ntmps15
  go_wp2
  go_ret
  exact ⟨rfl, rfl⟩
def readD (time : Bool) (l : List UInt8) : Option Nat := if time then secD l else wholeD l
theorem num_read (time : Bool) (v : List UInt8) (hv : v ≠ []) (hm : v.length ≤ 140737488351232) (b i : Nat) (t : TypeId) (cs : Array Value) (old : Value) (w : World) (hb : Blk w b t cs) (hi : i < cs.size) (ho : cs[i]? = some old) (hold : ∃ k, old = .int .i64 k) :
    Calls Tryd.prog 15 #[.pointer (some ⟨b, i, none⟩), .string (str v), readV time] w fun e w' => e = .returned (.bool (readD time v).isSome) ∧ Blk w' b t (cs.set i (.int .i64 (natO (readD time v))) hi) ∧ Kept (oneB b) w w' := by
  obtain ⟨k, rfl⟩ := hold
  have b1 : (str v).toList.isEmpty = false := by rw [str_empty]; simpa using hv
  have hs := fun w => seconds_any v w hm
  have hn := fun w => number_any v w hm
  have HB := Lib.hid hb
  have HO := Lib.hid ho
  clear hb ho hv hm
  cases time with
  | false =>
    rw [show readV false = .func (.func 16) #[] #[] from rfl, show readD false v = wholeD v from rfl]
    simp only [wholeV_eq] at hn
    generalize natO (wholeD v) = N at hn ⊢
    generalize (wholeD v).isSome = B at hn ⊢
    have HN := Lib.hid hn
    clear hn hs
    go_enter Tryd.func15, Tryd.ntmps15
    go_wp2_with fail
    refine (HN.out w).mono ?_
    rintro e w1 ⟨rfl, hB⟩
    have hb1 := HB.out.below hB HB.out.lt
    have c0 := hb1.cell i
    rw [HO.out] at c0
    have f0 := hb1.frozen i
    have H1 := Lib.hid (And.intro hb1 hB)
    clear hb1 hB
    go_wp2
    go_ret
    exact ⟨rfl, H1.out.1.set i _ hi, (Kept.of_below H1.out.2 (oneB b)).setCell (a := ⟨b, i, none⟩) (.inr rfl) _⟩
  | true =>
    rw [show readV true = .func (.func 17) #[] #[] from rfl, show readD true v = secD v from rfl]
    simp only [wholeV_eq] at hs
    generalize natO (secD v) = N at hs ⊢
    generalize (secD v).isSome = B at hs ⊢
    have HN := Lib.hid hs
    clear hn hs
    go_enter Tryd.func15, Tryd.ntmps15
    go_wp2_with fail
    refine (HN.out w).mono ?_
    rintro e w1 ⟨rfl, hB⟩
    have hb1 := HB.out.below hB HB.out.lt
    have c0 := hb1.cell i
    rw [HO.out] at c0
    have f0 := hb1.frozen i
    have H1 := Lib.hid (And.intro hb1 hB)
    clear hb1 hB
    go_wp2
    go_ret
    exact ⟨rfl, H1.out.1.set i _ hi, (Kept.of_below H1.out.2 (oneB b)).setCell (a := ⟨b, i, none⟩) (.inr rfl) _⟩
/-- the number that is left, and whether it is one -/
theorem changeNumber_any (time : Bool) (v : List UInt8) (hm : v.length ≤ 140737488351232) (b i : Nat) (t : TypeId) (cs : Array Value) (old : Int) (w : World) (hb : Blk w b t cs) (hi : i < cs.size) (ho : cs[i]? = some (.int .i64 old)) :
    Calls Tryd.prog 15 #[.pointer (some ⟨b, i, none⟩), .string (str v), readV time] w fun e w' => e = .returned (.bool (numD1 time v old).isSome) ∧ Blk w' b t (cs.set i (.int .i64 ((numD1 time v old).getD 0)) hi) ∧ Kept (oneB b) w w' := by
  by_cases hv : v = []
  · subst hv
    refine (num_empty time _ w).mono ?_
    rintro e w' ⟨rfl, rfl⟩
    refine ⟨rfl, ?_, Kept.refl _ _⟩
    have e : cs.set i (.int .i64 ((numD1 time [] old).getD 0)) hi = cs := by
      apply Array.ext (by simp)
      intro j h1 h2
      rw [Array.getElem_set]
      split
      · rename_i hij
        subst hij
        rw [Array.getElem?_eq_getElem hi] at ho
        exact (Option.some.inj ho).symm
      · rfl
    rw [e]
    exact hb
  · refine (num_read time v hv hm b i t cs _ w hb hi ho ⟨_, rfl⟩).mono ?_
    rintro e w' ⟨rfl, h1, h2⟩
    have e1 : numD1 time v old = Option.map Int.ofNat (readD time v) := if_neg hv
    have e2 : (numD1 time v old).getD 0 = natO (readD time v) := by rw [e1]; cases readD time v <;> rfl
    rw [e2, e1, Option.isSome_map]
    exact ⟨rfl, h1, h2⟩
end Go.Proofs.YtfmhdkemigpjjaaDoor.Attr
