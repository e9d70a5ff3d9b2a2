/- Texts in fields: bytes.Cut at one byte, parts.text, parts.name, parts.kind, and the document's own until. -/
import Derived.Test.YtdnelijkhinpcabDoorBlank
import Derived.Test.YtdnelijkhinpcabDoorCutb
import Derived.Lib.IndexLaws
namespace Go.Proofs.YtdnelijkhinpcabDoor.Head
open Go.ChangeShapes Go.WideShapes Go.ChangeAt Go.RowKit Go.Proofs.YtdnelijkhinpcabDoor.Base Go.Proofs.YtdnelijkhinpcabDoor.Byt Go.Proofs.YtdnelijkhinpcabDoor.Hp Go.Proofs.YtdnelijkhinpcabDoor.Mp Go.Lib
set_option linter.unusedVariables false
set_option maxRecDepth 100000

/-- a text as a string -/
def str (l : List UInt8) : ByteArray := ⟨l.toArray⟩
theorem str_data (l : List UInt8) : (str l).data.toList = l := by simp [str]
theorem str_of (s : ByteArray) : str s.data.toList = s := by
  apply ByteArray.ext
  simp [str]
theorem str_size (l : List UInt8) : (str l).size = l.length := by simp [str, ByteArray.size]
theorem str_app' (a b : List UInt8) : str a ++ str b = str (a ++ b) := by
  apply ByteArray.ext
  simp [str, ByteArray.data_append]
theorem str_inj {a b : List UInt8} (h : str a = str b) : a = b := by
  have := congrArg (fun s : ByteArray => s.data.toList) h
  simpa [str_data] using this
theorem str_toList (l : List UInt8) : (str l).toList = l := by rw [toList_data, str_data]
theorem str_beq (a b : List UInt8) : (str a == str b) = decide (a = b) := by
  by_cases h : a = b
  · subst h
    simpa using (MapKept.bytes_beq (str a) (str a)).2 rfl
  · cases hc : str a == str b with
    | true => exact absurd (str_inj ((MapKept.bytes_beq _ _).1 hc)) h
    | false => simpa using h
theorem until_take (l : List UInt8) : (0 ≤ Lib.indexByte l 0 → l.take (Lib.indexByte l 0).toNat = untilB l ∧ (Lib.indexByte l 0).toNat ≤ l.length) ∧ (¬ 0 ≤ Lib.indexByte l 0 → untilB l = l) := by
  induction l with
  | nil => exact ⟨fun h => by simp [Lib.indexByte] at h, fun _ => rfl⟩
  | cons b l ih =>
    have hge := Lib.indexByte_ge l 0
    by_cases hb : b = 0
    · subst hb
      have e : Lib.indexByte ((0 : UInt8) :: l) 0 = 0 := by simp [Lib.indexByte]
      rw [e]
      exact ⟨fun _ => ⟨by simp [untilB], by simp⟩, fun h => absurd (by omega) h⟩
    · have hbb : (b == 0) = false := by simpa using hb
      have hu : untilB (b :: l) = b :: untilB l := by
        unfold untilB
        rw [List.takeWhile_cons, if_pos (by simpa using hb)]
      by_cases hi : Lib.indexByte l 0 = -1
      · have e : Lib.indexByte (b :: l) 0 = -1 := by simp [Lib.indexByte, hbb, hi]
        rw [e, hu]
        refine ⟨fun h => absurd h (by omega), fun _ => ?_⟩
        rw [ih.2 (by omega)]
      · have hi' : (Lib.indexByte l 0 == -1) = false := by simpa using hi
        have e : Lib.indexByte (b :: l) 0 = Lib.indexByte l 0 + 1 := by simp [Lib.indexByte, hbb, hi']
        obtain ⟨h1, h2⟩ := ih.1 (by omega)
        rw [e, hu, show (Lib.indexByte l 0 + 1).toNat = (Lib.indexByte l 0).toNat + 1 by omega]
        exact ⟨fun _ => ⟨by rw [List.take_succ_cons, h1], by rw [List.length_cons]; omega⟩, fun h => absurd (by omega) h⟩
/-- bytes.Cut of a field at a byte 0: what stands ahead of it -/
theorem cut_any (b o n c b2 : Nat) (bs : List UInt8) (w : World) (hn : bs.length = n) (hc : n ≤ c) (hm : n ≤ 140737488351232) (h : BAt w (some ⟨b, o, none⟩) n bs) (h2 : w.cell? ⟨b2, 0, none⟩ = some (.int .u8 0)) :
    Calls Tryd.prog 37 #[.slice (some ⟨b, o, none⟩) n c, .slice (some ⟨b2, 0, none⟩) 1 1] w fun e w' => ∃ v2 v3, e = .returned (.tuple #[.slice (some ⟨b, o, none⟩) (untilB bs).length c, v2, v3]) ∧ Kept noneB w w' := by
  have hu := until_take bs
  have hnb : bytesOf (nums bs) = bs := bytesOf_nums bs
  have hidx := Any.bytes_Index_one Tryd.laysCut.index b o n c b2 0 1 (nums bs) 0 w (by rw [nums_length, hn]) (fun i hi => by
    obtain ⟨b', o', he, hcell⟩ := h (by omega)
    cases he
    rw [hcell i hi]
    simp [nums, List.getD, List.getElem?_eq_getElem (show i < bs.length by omega)]) h2
  rw [hnb, show (0 : Int).toNat.toUInt8 = 0 from rfl] at hidx
  have hroom : 0 ≤ Lib.indexByte bs 0 → Lib.indexByte bs 0 + (1 : Nat) ≤ n := fun h0 => by
    obtain ⟨k, hk⟩ : ∃ k : Nat, Lib.indexByte bs 0 = k := ⟨(Lib.indexByte bs 0).toNat, by omega⟩
    have := (Lib.indexByte_some hk).1
    have hlt := (List.getElem?_eq_some_iff.1 this).1
    omega
  refine (Any.bytes_Cut_of Tryd.laysCut (some ⟨b, o, none⟩) (some ⟨b2, 0, none⟩) n c 1 1 (Lib.indexByte bs 0) w hc (Lib.indexByte_ge _ _) hroom (by omega) (hidx.mono fun e w' he => ⟨he.1, 0, he.2⟩)).mono ?_
  rintro e w' ⟨rfl, q, rfl⟩
  unfold Lib.cutV
  by_cases h0 : 0 ≤ Lib.indexByte bs 0
  · rw [if_pos h0]
    obtain ⟨h3, h4⟩ := hu.1 h0
    refine ⟨_, _, congrArg (fun k => Ending.returned (.tuple #[.slice (some ⟨b, o, none⟩) k c, _, _])) ?_, (Kept.refl _ _).drewN _⟩
    rw [← h3, List.length_take]
    omega
  · rw [if_neg h0]
    refine ⟨_, _, congrArg (fun k => Ending.returned (.tuple #[.slice (some ⟨b, o, none⟩) k c, _, _])) ?_, (Kept.refl _ _).drewN _⟩
    rw [hu.2 h0, hn]
theorem until_le (bs : List UInt8) : (untilB bs).length ≤ bs.length ∧ bs.take (untilB bs).length = untilB bs := by
  have h : untilB bs <+: bs := List.takeWhile_prefix _
  exact ⟨h.length_le, (List.prefix_iff_eq_take.1 h).symm⟩
theorem text_any (lo B : Nat) (r : Nat → Nat) (own : Nat → List UInt8) (i : Nat) (w : World) (hi : i < 11) (hP : PartsAt w lo B r own) :
    Calls Tryd.prog 26 #[.map (some B), .int .i64 (i : Int)] w fun e w' => e = .returned (.string (str (untilB (own i)))) ∧ Kept noneB w w' := by
  have fl := field_own
  have HP := Lib.hid hP
  have lk : (Instr.lookup 44 (.map (some B)) (.int .i64 (i : Int)) false).run Tryd.prog w = .ok (.agg #[.int .i64 (atF i), .slice (some ⟨r i, 0, none⟩) (wideF i) (wideF i)]) w :=
    hP.map.look (P := Tryd.prog) Tryd.underlying44 Tryd.underlying47 (x := i) (v := partV r i) (by unfold partF; rw [if_pos hi])
  have hw := wide_pos hi
  have HA := Lib.hid ((Kept.refl noneB w).alloc (.cells #[.int .u8 0] 5))
  have HW := Lib.hid hw
  clear hP hw
  go_enter Tryd.func26, Tryd.ntmps26
  go_wp2_with fail
  refine (cut_any (r i) 0 (wideF i) (wideF i) w.heap.size (own i) _ (HP.out.fit i) (Nat.le_refl _) (by have := HW.out; omega) ((HP.out.kept0 HA.out).bat hi) (by
    rw [World.cell?_alloc_at _ _ _ _ rfl]; rfl)).mono ?_
  rintro e w1 ⟨v2, v3, rfl, hk⟩
  have hul := until_le (own i)
  have cs : (convert 27 9 (.slice (some ⟨r i, 0, none⟩) (untilB (own i)).length (wideF i))).run Tryd.prog w1 = .ok (.string (str (untilB (own i)))) w1 := by
    refine conv_at ?_ rfl _ _ _ Tryd.underlying27 Tryd.underlying5 Tryd.underlying9 _
    have hb := ((HP.out.kept0 HA.out).kept0 hk).bat hi
    have := hb.take (k := (untilB (own i)).length) (by rw [← HP.out.fit i]; exact hul.1)
    rwa [hul.2] at this
  have HK := Lib.hid (HA.out.trans hk)
  clear hk hul
  go_wp2
  go_ret
  exact ⟨rfl, HK.out⟩
/-- a kind's byte -/
def kindO (l : List UInt8) : UInt8 := if l.getD 0 0 = 0 then 48 else l.getD 0 0
theorem kindO_is (bs : List UInt8) : kindB bs = kindO (fieldB bs 7) := rfl
theorem kind_any (lo B : Nat) (r : Nat → Nat) (own : Nat → List UInt8) (w : World) (hP : PartsAt w lo B r own) :
    Calls Tryd.prog 27 #[.map (some B)] w fun e w' => e = .returned (.int .u8 ((kindO (own 7)).toNat : Int)) ∧ w = w' := by
  unfold kindO
  have fl := field_own
  have lk : (Instr.lookup 44 (.map (some B)) (.int .i64 7) false).run Tryd.prog w = .ok (.agg #[.int .i64 156, .slice (some ⟨r 7, 0, none⟩) 1 1]) w :=
    hP.map.look (P := Tryd.prog) Tryd.underlying44 Tryd.underlying47 (x := 7) (v := partV r 7) rfl
  have hc := (hP.row 7 (by omega)).cell 0 (by rw [hP.fit 7]; decide)
  generalize hX : (own 7).getD 0 0 = X at *
  obtain ⟨x, hx⟩ : ∃ x : Int, x = (X.toNat : Int) := ⟨_, rfl⟩
  rw [← hx] at hc
  have HX := Lib.hid hx
  clear hP hX hx
  by_cases h0 : x = 0
  · have E : Hid (X = 0) := Lib.hid (UInt8.toNat_inj.1 (by have := HX.out; simp; omega))
    have hb : (x == 0) = true := by simpa using h0
    go_enter Tryd.func27, Tryd.ntmps27
    go_wp2
    go_ret
    first | exact ⟨rfl, rfl⟩ | (rw [E.out]; exact ⟨rfl, rfl⟩)
  · have E : Hid (X ≠ 0) := Lib.hid (fun e => h0 (by rw [HX.out, e]; rfl))
    have hb : (x == 0) = false := by simpa using h0
    go_enter Tryd.func27, Tryd.ntmps27
    go_wp2
    go_ret
    first | (rw [← HX.out]; exact ⟨rfl, rfl⟩) | (rw [if_neg E.out, ← HX.out]; exact ⟨rfl, rfl⟩)
theorem name_any (lo B : Nat) (r : Nat → Nat) (own : Nat → List UInt8) (gnu : Bool) (w : World) (hP : PartsAt w lo B r own) :
    Calls Tryd.prog 25 #[.map (some B), .bool gnu] w fun e w' => e = .returned (.string (str (nameF (untilB (own 10)) (untilB (own 0)) gnu))) ∧ Kept noneB w w' := by
  have HP := Lib.hid hP
  have hu := until_le (own 10)
  have hu0 := until_le (own 0)
  have hz := HP.out.fit 10
  have hz0 := HP.out.fit 0
  obtain ⟨p, hp⟩ : ∃ p, p = untilB (own 10) := ⟨_, rfl⟩
  obtain ⟨s, hs⟩ : ∃ s, s = untilB (own 0) := ⟨_, rfl⟩
  have hpl : (str p).size ≤ 155 := by rw [str_size, hp]; have := hu.1; simp only [wideF] at hz; omega
  have hsl : (str s).size ≤ 100 := by rw [str_size, hs]; have := hu0.1; simp only [wideF] at hz0; omega
  have HPp := Lib.hid hp
  have HS := Lib.hid hs
  clear hP hu hu0 hz hz0 hp hs
  rw [← HPp.out, ← HS.out]
  by_cases h0 : p = [] ∨ gnu = true
  · have E : Hid (nameF p s gnu = s) := Lib.hid (if_pos (by rcases h0 with h | h; exact Or.inr h; exact Or.inl h))
    rcases h0 with h0 | h0
    · have hb : str p = ⟨#[]⟩ := congrArg str h0
      go_enter Tryd.func25, Tryd.ntmps25
      go_wp2_with fail
      refine (text_any lo B r own 10 w (by omega) HP.out).mono ?_
      rintro e w1 ⟨rfl, hk1⟩
      rw [← HPp.out, hb]
      have HK1 := Lib.hid hk1
      clear hk1
      go_wp2_with fail
      refine (text_any lo B r own 0 w1 (by omega) (HP.out.kept0 HK1.out)).mono ?_
      rintro e w2 ⟨rfl, hk2⟩
      rw [← HS.out]
      have HK := Lib.hid (HK1.out.trans hk2)
      clear hk2
      go_wp2
      go_ret
      rw [E.out]
      exact ⟨rfl, HK.out⟩
    · subst h0
      by_cases hpe : p = []
      · have hb : str p = ⟨#[]⟩ := congrArg str hpe
        go_enter Tryd.func25, Tryd.ntmps25
        go_wp2_with fail
        refine (text_any lo B r own 10 w (by omega) HP.out).mono ?_
        rintro e w1 ⟨rfl, hk1⟩
        rw [← HPp.out, hb]
        have HK1 := Lib.hid hk1
        clear hk1
        go_wp2_with fail
        refine (text_any lo B r own 0 w1 (by omega) (HP.out.kept0 HK1.out)).mono ?_
        rintro e w2 ⟨rfl, hk2⟩
        rw [← HS.out]
        have HK := Lib.hid (HK1.out.trans hk2)
        clear hk2
        go_wp2
        go_ret
        rw [E.out]
        exact ⟨rfl, HK.out⟩
      · have hb : (str p).toList.isEmpty = false := by rw [str_toList]; simpa using hpe
        go_enter Tryd.func25, Tryd.ntmps25
        go_wp2_with fail
        refine (text_any lo B r own 10 w (by omega) HP.out).mono ?_
        rintro e w1 ⟨rfl, hk1⟩
        rw [← HPp.out]
        have HK1 := Lib.hid hk1
        clear hk1
        go_wp2_with fail
        refine (text_any lo B r own 0 w1 (by omega) (HP.out.kept0 HK1.out)).mono ?_
        rintro e w2 ⟨rfl, hk2⟩
        rw [← HS.out]
        have HK := Lib.hid (HK1.out.trans hk2)
        clear hk2
        go_wp2
        go_ret
        rw [E.out]
        exact ⟨rfl, HK.out⟩
  · have hpe : p ≠ [] := fun e => h0 (Or.inl e)
    have hg : gnu = false := by cases gnu with
      | false => rfl
      | true => exact absurd (Or.inr rfl) h0
    subst hg
    have E : Hid (str (nameF p s false) = str p ++ ⟨#[47]⟩ ++ str s) := Lib.hid (by
      rw [nameF, if_neg (by simp [hpe]), show (⟨#[47]⟩ : ByteArray) = str [47] from rfl, str_app', str_app']
      simp)
    have hb : (str p).toList.isEmpty = false := by rw [str_toList]; simpa using hpe
    go_enter Tryd.func25, Tryd.ntmps25
    go_wp2_with fail
    refine (text_any lo B r own 10 w (by omega) HP.out).mono ?_
    rintro e w1 ⟨rfl, hk1⟩
    rw [← HPp.out]
    have HK1 := Lib.hid hk1
    clear hk1
    go_wp2_with fail
    refine (text_any lo B r own 0 w1 (by omega) (HP.out.kept0 HK1.out)).mono ?_
    rintro e w2 ⟨rfl, hk2⟩
    rw [← HS.out]
    have HK := Lib.hid (HK1.out.trans hk2)
    clear hk2
    go_wp2
    go_ret
    rw [E.out]
    exact ⟨rfl, HK.out⟩
end Go.Proofs.YtdnelijkhinpcabDoor.Head
