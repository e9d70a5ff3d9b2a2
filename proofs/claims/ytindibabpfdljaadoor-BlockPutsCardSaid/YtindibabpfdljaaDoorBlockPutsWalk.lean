/- The walk over BlockPuts: it returns true for every input, and writes nothing that was there. -/
import Derived.Test.YtindibabpfdljaaDoorBlockOpen
import Derived.Test.YtindibabpfdljaaDoorBytZeros
import Derived.Deep.RegionHeld3
import Derived.Deep.RegionHeldLaw
namespace Go.Proofs.YtindibabpfdljaaDoor.Walk
open Go.ChangeShapes Go.WideShapes Go.ChangeAt Go.RowKit Go.Proofs.YtindibabpfdljaaDoor.Base Go.Proofs.YtindibabpfdljaaDoor.Byt Go.Proofs.YtindibabpfdljaaDoor.Num Go.Proofs.YtindibabpfdljaaDoor.Block Go.Lib
set_option linter.unusedVariables false

theorem ppad_any (n : Int) (k : Nat) (w : World) (h : n = k) (hk : k ≤ 200000) :
    Calls Tryd.prog 13 #[.int .i64 n] w fun e w' => e = .returned (.int .i64 (padN k : Nat)) ∧ w = w' := by
  subst h
  have hp : (((k : Int) + 511) / 512 * 512) = ((padN k : Nat) : Int) := by unfold padN; omega
  obtain ⟨P, hP⟩ : ∃ P, P = padN k := ⟨_, rfl⟩
  rw [← hP] at hp ⊢
  clear hP
  go_enter Tryd.func13, Tryd.ntmps13
  go_wp2
  go_ret
  exact ⟨rfl, rfl⟩
/-- the sink and the list of what is wanted hold the same bytes, in rows that lie apart -/
structure PutsInv (w : World) (g : Nat) (sv wv : Value) (X : List UInt8) (wr : World) : Prop where
  snk : Snk wr g w.heap.size sv X
  own : OwnB wr w.heap.size wv X.length X
  apart : ∀ k, wv.ownBlock = some k → sv.ownBlock ≠ some k
  kept : Byt.Kept noneB w wr
theorem own_off {w : World} {g B B' : Nat} {sv v : Value} {X Y : List UInt8} {n : Nat} (hs : Snk w g B sv X) (ho : OwnB w B' v n Y) : v.ownBlock ≠ some g := fun e => by
  rcases ho.2 with ⟨rfl, _⟩ | ⟨b, cap, cur, rfl, _, hb, _⟩
  · cases e
  · simp only [Value.ownBlock, Option.some.injEq] at e
    subst e
    rw [hs.blk] at hb
    have : 43 = 5 := by injection hb with h1; injection h1
    exact absurd this (by decide)
/-- one step of the list of what is wanted -/
theorem want_step {w wr w' : World} {g n : Nat} {sv wv v' : Value} {X Y : List UInt8} (hs : Snk wr g w.heap.size sv X) (ho : OwnB wr w.heap.size wv n Y) (ha : ∀ k, wv.ownBlock = some k → sv.ownBlock ≠ some k) (hk0 : Byt.Kept noneB w wr) (hg : wr.grownBy w' wv.ownBlock) (hn : NewOr wr wv v') :
    Snk w' g w.heap.size sv X ∧ (∀ k, v'.ownBlock = some k → sv.ownBlock ≠ some k) ∧ Byt.Kept noneB w w' := by
  have hk : Byt.Kept (fun x => wv.ownBlock = some x) wr w' := (Byt.Kept.refl _ wr).grown hg (fun x hx => Or.inr hx)
  refine ⟨hs.kept hk (fun e => own_off hs ho e) (fun k hk e => ha k e hk), fun k hk' e => ?_, hk0.then hk (fun i hi => Or.inl (ho.lt i hi).1)⟩
  rcases hn k hk' with h1 | h1
  · exact ha k h1 e
  · have := (hs.own.lt k e).2
    omega
theorem nums_zeros (k : Nat) : nums (List.replicate k 0) = zs8 k := by simp [nums, zs8]
theorem own_zeros {w : World} {B : Nat} {v : Value} {X : List UInt8} {k n : Nat} (hn : X.length + k = n) (h : w.ownsRow B 5 1 v (X.length + k) ((nums X ++ zs8 k).map (Value.int .u8))) : OwnB w B v (X ++ List.replicate k 0).length (X ++ List.replicate k 0) := by
  unfold OwnB
  rw [List.length_append, List.length_replicate]
  have e : nums (X ++ List.replicate k 0) = nums X ++ zs8 k := by rw [← nums_zeros]; unfold nums; rw [List.map_append]
  rw [e]
  exact h
/-- one step of the sink -/
theorem sink_step {w wr w' : World} {g : Nat} {sv wv v' : Value} {X Y : List UInt8} (hs : Snk wr g w.heap.size sv X) (ho : OwnB wr w.heap.size wv Y.length Y) (ha : ∀ k, wv.ownBlock = some k → sv.ownBlock ≠ some k) (hk : Byt.Kept noneB w wr) (hgn : w.heap.size ≤ g)
    (hp : Byt.Kept (putB g sv) wr w') (hn : NewOr wr sv v') : OwnB w' w.heap.size wv Y.length Y ∧ (∀ k, wv.ownBlock = some k → v'.ownBlock ≠ some k) ∧ Byt.Kept noneB w w' := by
  refine ⟨ho.kept hp (fun k hk' e => ?_), fun k hk' e => ?_, hk.then hp (fun i hi => Or.inl ?_)⟩
  · rcases e with e | e
    · exact own_off hs ho (by rw [hk', e])
    · exact ha k hk' e
  · rcases hn k e with h1 | h1
    · exact ha k hk' h1
    · have := (ho.lt k hk').2
      omega
  · rcases hi with e | e
    · rw [e]; exact hgn
    · exact (hs.own.lt i e).1
theorem catB_three (x y z : List UInt8) : catB (fun i => if i = 0 then x else if i = 1 then y else z) 3 = x ++ y ++ z := by simp [catB]
/-- Put of two halves, with an empty list between -/
theorem put3_any (w : World) (g B : Nat) (v : Value) (X : List UInt8) (h : Snk w g B v X) (hB : B ≤ w.heap.size) (q1 : Option Addr) (m1 c1 : Nat) (x1 : List UInt8) (q2 : Option Addr) (m2 c2 : Nat) (x2 : List UInt8)
    (h1 : BAt w q1 m1 x1) (l1 : x1.length = m1) (o1 : 0 < m1 → ∀ x, q1 = some x → v.ownBlock ≠ some x.block) (h2 : BAt w q2 m2 x2) (l2 : x2.length = m2) (o2 : 0 < m2 → ∀ x, q2 = some x → v.ownBlock ≠ some x.block) (hsum : X.length + m1 + m2 ≤ 140737488351232) :
    Calls Tryd.prog 17 #[.pointer (some ⟨g, 0, none⟩), .slice (some ⟨w.heap.size, 0, none⟩) 3 3] (w.alloc (.cells #[.slice q1 m1 c1, .slice none 0 0, .slice q2 m2 c2] 22)) (PutPost w g B v X (x1 ++ x2)) := by
  have hk : Byt.Kept noneB w (w.alloc (.cells #[.slice q1 m1 c1, .slice none 0 0, .slice q2 m2 c2] 22)) := (Byt.Kept.refl _ w).alloc _
  have hcat : catB (fun i => if i = 0 then x1 else if i = 1 then [] else x2) 3 = x1 ++ x2 := by rw [catB_three, List.append_nil]
  rw [← hcat]
  refine (sput_any _ g B v X (h.kept hk id (fun _ _ => id)) (Nat.le_trans hB hk.size) _ 3 3 (fun i => if i = 0 then q1 else if i = 1 then none else q2) (fun i => if i = 0 then m1 else if i = 1 then 0 else m2) (fun i => if i = 0 then c1 else if i = 1 then 0 else c2) (fun i => if i = 0 then x1 else if i = 1 then [] else x2) ?_ (by decide) ?_ ?_ ?_).mono ?_
  · intro _
    refine ⟨w.heap.size, 0, rfl, by simp, fun i hi => ?_⟩
    match i, hi with
    | 0, _ => exact ⟨by simp, h1.kept hk (fun _ _ _ => id), l1⟩
    | 1, _ => exact ⟨by simp, BAt.none_ _ _, rfl⟩
    | 2, _ => exact ⟨by simp, h2.kept hk (fun _ _ _ => id), l2⟩
  · intro _ x hx
    cases hx
    have h3 := h.lt
    refine ⟨by show w.heap.size ≠ g; omega, fun e => ?_⟩
    have : w.heap.size < w.heap.size := (h.own.lt _ e).2
    omega
  · intro i hi
    match i, hi with
    | 0, _ => exact o1
    | 1, _ => exact fun hh => by simp at hh
    | 2, _ => exact o2
  · rw [hcat, List.length_append, List.length_append, l1, l2]; omega
  · rintro e w' ⟨v', h3, h4, h5, h6⟩
    exact ⟨v', h3, h4, (hk.of_none _).trans h5, fun k hk' => by
      rcases h6 k hk' with h7 | h7
      · exact Or.inl h7
      · exact Or.inr (Nat.le_trans hk.size h7)⟩
set_option maxRecDepth 100000 in
set_option maxHeartbeats 4000000 in
theorem blockPuts' (a0 : Option Addr) (n0 cap0 : Nat) (A : Nat → Option Addr) (M C : Nat → Nat) (Bs : Nat → List UInt8) (a1 : Option Addr) (n1 cap1 : Nat) (T : Nat → Bool) (w : World)
    (hl : LAt w a0 n0 A M C Bs) (hm : ∀ i, i < n0 → M i ≤ C i ∧ C i ≤ maxLen) (hc0 : n0 ≤ cap0 ∧ cap0 ≤ maxLen) (ht : TAt w a1 n1 T) (hc1 : n1 ≤ cap1 ∧ cap1 ≤ maxLen) :
    Calls Tryd.prog 5 #[.slice a0 n0 cap0, .slice a1 n1 cap1] w fun e w' => e = .returned (.bool true) ∧ Below w.heap.size w w' := by
  obtain ⟨i0, hi, hz0, hz1, hz2⟩ := info_parts infoU8
  obtain ⟨hc0, hc0'⟩ := hc0
  obtain ⟨hc1, hc1'⟩ := hc1
  unfold maxLen at hc0' hc1'
  have HI := Lib.hid hi
  have HZ0 := Lib.hid hz0
  have HZ1 := Lib.hid hz1
  have HZ2 := Lib.hid hz2
  have HL := Lib.hid hl
  have HM := Lib.hid hm
  have HT := Lib.hid ht
  have HI0 : Hid (PutsInv w w.heap.size (.slice none 0 0) (.slice none 0 0) [] (w.alloc (.cells #[.slice none 0 0] 43))) := Lib.hid ⟨snk_new w _, World.ownsRow_nil _ _ _ _, (fun k hk => by cases hk), (Byt.Kept.refl _ w).alloc _⟩
  clear hi hz0 hz1 hz2 hl hm ht
  go_enter Tryd.func5, Tryd.ntmps5
  go_wp2_with fail
  go_loopw [6, 7] (fun v i wr => ∃ k : Nat, k ≤ n0 ∧ (k = 0 ∨ n0 ≤ 40) ∧ i = .int .i64 k ∧ Hid (∃ sv X, X.length ≤ 4000 * k ∧ PutsInv w w.heap.size sv v X wr)) (fun _ i _ => n0 - (RowKit.intOf i).toNat)
  case atStart => exact ⟨0, by omega, Or.inl rfl, rfl, Lib.hid ⟨_, _, by simp, HI0.out⟩⟩
  case round =>
    obtain ⟨k, hk, hk40, rfl, hinv⟩ := hrel
    obtain ⟨sv, X, hX, hp⟩ := hinv.out
    have HP := Lib.hid hp
    have HX := Lib.hid hX
    clear hinv hp hX
    by_cases hlt : k < n0
    · obtain ⟨lb, lo, rfl, hlb, hcells⟩ := HL.out (by omega)
      obtain ⟨hcell0, hbk, hbl⟩ := hcells k hlt
      have hblk := HP.out.kept.block lb hlb id
      have hcell := (World.cell?_of_block (a := ⟨lb, lo + k, none⟩) hblk).trans hcell0
      have HCELL := Lib.hid hcell0
      obtain ⟨q, hq⟩ : ∃ q, A k = q := ⟨_, rfl⟩
      obtain ⟨m, hm⟩ : ∃ m, M k = m := ⟨_, rfl⟩
      obtain ⟨c, hc⟩ : ∃ c, C k = c := ⟨_, rfl⟩
      obtain ⟨xs, hxs⟩ : ∃ xs, Bs k = xs := ⟨_, rfl⟩
      rw [hq, hm, hc] at hcell hcell0
      rw [hq, hm, hxs] at hbk
      rw [hxs, hm] at hbl
      have hmc := HM.out k hlt
      rw [hm, hc] at hmc
      obtain ⟨hmc, hcm⟩ := hmc
      unfold maxLen at hcm
      have HC0 := Lib.hid hcell0
      have HBK := Lib.hid hbk
      have HBL := Lib.hid hbl
      clear hcells hcell0 hbk hbl hblk hq hm hc hxs
      by_cases hbig : 40 < n0 ∨ 3000 < m
      · have hbb : (decide (40 < (n0 : Int)) || decide (3000 < (m : Int))) = true := by simp; omega
        clear hbig
        go_wp2_with fail
        all_goals
          refine (ans03_any _).mono ?_
          rintro e w2 ⟨rfl, hk2⟩
          have HK := Lib.hid (HP.out.kept.trans hk2)
          clear hk2
          go_wp2
          go_ret
          exact ⟨rfl, HK.out.below (Nat.le_refl _) (fun _ h => h.elim)⟩
      · have hn40 : n0 ≤ 40 := by omega
        have hm3 : m ≤ 3000 := by omega
        clear hbig
        go_wp2_with (at_builtin; refine append_bytes_new rfl _ _ 22 rfl w.heap.size 5 i0 Tryd.underlying22 HI.out HZ0.out HZ1.out HZ2.out _ _ _ rfl HP.out.own q m c xs rfl (HBK.out.kept HP.out.kept (fun _ _ _ => id)) HBL.out ?d2 ?d3 ?_)
        case d2 => have := HX.out; omega
        case d3 => exact HP.out.kept.size
        intro v2 w2 hown2 hgrow2 hnew2
        obtain ⟨hs2, ha2, hk2⟩ := want_step HP.out.snk HP.out.own HP.out.apart HP.out.kept hgrow2 hnew2
        have ho2 : OwnB w2 w.heap.size v2 (X ++ xs).length (X ++ xs) := by
          unfold OwnB
          rw [List.length_append, HBL.out]
          unfold nums at hown2 ⊢
          rw [List.map_append, List.map_append]
          exact hown2
        have HS2 := Lib.hid hs2
        have HA2 := Lib.hid ha2
        have HK2 := Lib.hid hk2
        have HO2 := Lib.hid ho2
        have hcell2 := (World.cell?_of_block (a := ⟨lb, lo + k, none⟩) (hk2.block lb hlb id)).trans HC0.out
        have hoff : Hid (0 < m → ∀ x, q = some x → sv.ownBlock ≠ some x.block) := Lib.hid (fun h0 x hx e => by
          obtain ⟨b, o, hb, hbw, _⟩ := HBK.out.cell h0
          rw [hb] at hx; cases hx
          have : w.heap.size ≤ b := (HP.out.snk.own.lt _ e).1
          omega)
        clear hs2 ha2 hk2 ho2 hown2 hgrow2 hnew2 hcell
        by_cases hbd : k < n1 ∧ T k = true
        · skip
          obtain ⟨hk1, hT⟩ := hbd
          obtain ⟨tb, to, rfl, htb, htc⟩ := HT.out (by omega)
          have htcell := (World.cell?_of_block (a := ⟨tb, to + k, none⟩) (HK2.out.block tb htb id)).trans (htc k hk1)
          rw [hT] at htcell
          clear htc hT
          have hp1 := padN_ge m
          have hp2 := padN_le m
          obtain ⟨P, hP⟩ : ∃ P, P = padN m := ⟨_, rfl⟩
          rw [← hP] at hp1 hp2
          have HPM := Lib.hid hP
          clear hP
          go_wp2_with fail
          refine (sbody_any w2 w.heap.size w.heap.size sv X HS2.out HK2.out.size q m c xs (HBK.out.kept HK2.out (fun _ _ _ => id)) HBL.out hoff.out (by rw [← HPM.out]; have := HX.out; omega)).mono ?_
          rintro e w3 ⟨v3, rfl, hs3, hk3, hn3⟩
          have hst := sink_step HS2.out HO2.out HA2.out HK2.out (Nat.le_refl _) hk3 hn3
          have hlb3 := Nat.lt_of_lt_of_le hlb hst.2.2.size
          have hcell3 := (World.cell?_of_block (a := ⟨lb, lo + k, none⟩) (hst.2.2.block lb hlb id)).trans HC0.out
          have HS3 := Lib.hid (hs3.kept (T := noneB) ((Byt.Kept.refl noneB w3).drew) id (fun _ _ => id))
          have HO3 := Lib.hid (hst.1.kept (T := noneB) ((Byt.Kept.refl noneB w3).drew) (fun _ _ => id))
          have HA3 := Lib.hid hst.2.1
          have HK3 := Lib.hid hst.2.2.drew
          have hlt' : (k : Int) < (n0 : Int) := by omega
          have hPmi : (P : Int) - (m : Int) = ((P - m : Nat) : Int) := by omega
          have HPMI := Lib.hid hPmi
          have hwr2 : IntKind.i64.wrap ((P : Int) - (m : Int)) = (P : Int) - (m : Int) := by rw [IntKind.wrap_i64]; omega
          have HNB3 : Hid (∀ j, v2.ownBlock = some j → j ≠ lb) := Lib.hid (fun j hj e => by
            have := (HO3.out.lt j hj).1
            omega)
          clear hs3 hk3 hn3 hst hPmi hcell2 htcell
          go_wp2_with fail
          go_region_held_law (fun w' => w'.cell? ⟨lb, lo + k, none⟩ = some (.slice q m c)) (first | exact hcell5 | exact hcell3) (first | (go_at_call 13; refine (ppad_any _ m _ rfl (by omega)).mono ?_; rintro e w6 ⟨rfl, rfl⟩; rw [← HPM.out]) | (refine step_zeros rfl _ _ 22 3 rfl w.heap.size 5 i0 .i64 .i64 Tryd.underlying22 Tryd.underlying3 HI.out HZ0.out HZ1.out HZ2.out v2 _ _ rfl HO3.out ((P : Int) - (m : Int)) (P - m) rfl HPMI.out ?_ ?_ ?_; (rw [List.length_append, HBL.out]; have := HX.out; omega); (exact HK3.out.size); intro v5 w5 hown5 hgrow5 hnew5; have hcell5 := (World.cell?_of_block (a := ⟨lb, lo + k, none⟩) (hgrow5.block lb hlb3 (fun e => HNB3.out lb e.symm rfl))).trans hcell3))
          all_goals
            have hst := want_step HS3.out HO3.out HA3.out HK3.out hgrow5 hnew5
            have ho5 := own_zeros rfl hown5
            have e5 : X ++ xs ++ List.replicate (P - m) 0 = X ++ (xs ++ zerosTo m) := by rw [HPM.out, List.append_assoc]; rfl
            rw [e5] at ho5
            have hlen : (X ++ (xs ++ zerosTo m)).length ≤ 4000 * (k + 1) := by rw [← e5, List.length_append, List.length_append, HBL.out, List.length_replicate]; have := HX.out; omega
            have HF : Hid (∃ sv X, X.length ≤ 4000 * (k + 1) ∧ PutsInv w w.heap.size sv v5 X w5) := Lib.hid ⟨v3, X ++ (xs ++ zerosTo m), hlen, ⟨hst.1, ho5, hst.2.1, hst.2.2⟩⟩
            clear hst hlen ho5 e5 hown5 hgrow5 hnew5 hcell5
            go_wp2_with fail
            go_roundw
            case rel => exact ⟨k + 1, by omega, Or.inr hn40, by go_num, HF⟩
            case measure => simp [RowKit.intOf]; omega
        · have hnb : k < n1 → T k = false := fun h => by
            cases hT : T k
            · rfl
            · exact absurd ⟨h, hT⟩ hbd
          clear hbd
          have HNB := Lib.hid hnb
          clear hnb
          by_cases hk1 : k < n1
          · obtain ⟨tb, to, rfl, htb, htc⟩ := HT.out (by omega)
            have htcell := (World.cell?_of_block (a := ⟨tb, to + k, none⟩) (HK2.out.block tb htb id)).trans (htc k hk1)
            rw [HNB.out hk1] at htcell
            clear htc
            go_wp2_with fail
            have hlt' : (k : Int) < (n0 : Int) := by omega
            have hcellA : ∀ o, (w2.alloc o).cell? ⟨lb, lo + k, none⟩ = some (.slice q m c) := fun o => (World.cell?_of_block (a := ⟨lb, lo + k, none⟩) (Below.heap_alloc w2 o lb (Nat.lt_of_lt_of_le hlb HK2.out.size))).trans hcell2
            obtain ⟨h, hh⟩ : ∃ h : Nat, h = m / 2 := ⟨_, rfl⟩
            have HS3 := Lib.hid (HS2.out.kept (T := noneB) ((Byt.Kept.refl noneB w2).drew) id (fun _ _ => id))
            have HBK2 := Lib.hid (HBK.out.kept HK2.out (fun _ _ _ => id))
            have HNB2 : Hid (¬ putB w.heap.size sv lb) := Lib.hid (fun e => by
              rcases e with e | e
              · omega
              · have := (HP.out.snk.own.lt _ e).1
                omega)
            by_cases hch : c = h
            · obtain rfl : c = 0 := by omega
              obtain rfl : m = 0 := by omega
              obtain rfl : h = 0 := by omega
              clear hh
              have hw0 : IntKind.i64.wrap 0 = 0 := by decide
              have HPUT := Lib.hid (put3_any w2.drew w.heap.size w.heap.size sv X HS3.out HK2.out.size q 0 0 [] q 0 0 [] (BAt.none_ _ _) rfl (fun h0 => absurd h0 (by omega)) (BAt.none_ _ _) rfl (fun h0 => absurd h0 (by omega)) (by have := HX.out; omega))
              have hx0 : [] ++ [] = xs := by rw [List.eq_nil_of_length_eq_zero HBL.out]; rfl
              rw [hx0] at HPUT
              clear hx0
              go_region_held3 (fun w' => w'.cell? ⟨lb, lo + k, none⟩ = some (.slice q 0 0)) (first | exact hcell4 | exact hcell2 | exact hcellA _) (first | (go_at_call 17; refine HPUT.out.mono ?_; rintro e w4 ⟨v', rfl, hs4, hk4, hn4⟩; have hcell4 := (World.cell?_of_block (a := ⟨lb, lo + k, none⟩) (hk4.block lb (Nat.lt_of_lt_of_le hlb HK2.out.size) HNB2.out)).trans hcell2))
              all_goals
                have hst := sink_step HS3.out (HO2.out.kept (T := noneB) ((Byt.Kept.refl noneB w2).drew) (fun _ _ => id)) HA2.out HK2.out.drew (Nat.le_refl _) hk4 hn4
                have hlen : (X ++ xs).length ≤ 4000 * (k + 1) := by rw [List.length_append, HBL.out]; have := HX.out; omega
                have HF : Hid (∃ sv X, X.length ≤ 4000 * (k + 1) ∧ PutsInv w w.heap.size sv v2 X w4) := Lib.hid ⟨v', X ++ xs, hlen, ⟨hs4, hst.1, hst.2.1, hst.2.2⟩⟩
                clear hst hlen hs4 hk4 hn4 hcell4
                go_wp2_with fail
                go_roundw
                case rel => exact ⟨k + 1, by omega, Or.inr hn40, by go_num, HF⟩
                case measure => simp [RowKit.intOf]; omega
            · have hq2 : (m : Int) / 2 = (h : Int) := by omega
              have hm1 : (h : Int) ≤ (c : Int) := by omega
              have hm2 : (h : Int) ≤ (m : Int) := by omega
              have hm3' : h ≤ m := by omega
              have hwr : IntKind.i64.wrap (h : Int) = (h : Int) := by rw [IntKind.wrap_i64]; omega
              have hdr := HBK2.out.drop hm3' hmc HBL.out
              rw [if_neg hch] at hdr
              have HH := Lib.hid hh
              clear hh
              have HPUT := Lib.hid (put3_any w2.drew w.heap.size w.heap.size sv X HS3.out HK2.out.size q h c (xs.take h) (q.map (·.add h)) (m - h) (c - h) (xs.drop h) (HBK2.out.take hm3') (by rw [List.length_take, HBL.out]; omega) (fun h0 => hoff.out (by omega)) hdr (by rw [List.length_drop, HBL.out]) (fun h0 x hx => by
                obtain ⟨y, hy, rfl⟩ := Option.map_eq_some_iff.1 hx
                have := hoff.out (by omega) y hy
                unfold Addr.add
                split <;> exact this) (by have := HX.out; omega))
              rw [List.take_append_drop] at HPUT
              clear hdr
              go_region_held3 (fun w' => w'.cell? ⟨lb, lo + k, none⟩ = some (.slice q m c)) (first | exact hcell4 | exact hcell2 | exact hcellA _) (first | (go_at_call 17; refine HPUT.out.mono ?_; rintro e w4 ⟨v', rfl, hs4, hk4, hn4⟩; have hcell4 := (World.cell?_of_block (a := ⟨lb, lo + k, none⟩) (hk4.block lb (Nat.lt_of_lt_of_le hlb HK2.out.size) HNB2.out)).trans hcell2))
              all_goals
                have hst := sink_step HS3.out (HO2.out.kept (T := noneB) ((Byt.Kept.refl noneB w2).drew) (fun _ _ => id)) HA2.out HK2.out.drew (Nat.le_refl _) hk4 hn4
                have hlen : (X ++ xs).length ≤ 4000 * (k + 1) := by rw [List.length_append, HBL.out]; have := HX.out; omega
                have HF : Hid (∃ sv X, X.length ≤ 4000 * (k + 1) ∧ PutsInv w w.heap.size sv v2 X w4) := Lib.hid ⟨v', X ++ xs, hlen, ⟨hs4, hst.1, hst.2.1, hst.2.2⟩⟩
                clear hst hlen hs4 hk4 hn4 hcell4
                go_wp2_with fail
                go_roundw
                case rel => exact ⟨k + 1, by omega, Or.inr hn40, by go_num, HF⟩
                case measure => simp [RowKit.intOf]; omega
          · go_wp2_with fail
            have hlt' : (k : Int) < (n0 : Int) := by omega
            have hcellA : ∀ o, (w2.alloc o).cell? ⟨lb, lo + k, none⟩ = some (.slice q m c) := fun o => (World.cell?_of_block (a := ⟨lb, lo + k, none⟩) (Below.heap_alloc w2 o lb (Nat.lt_of_lt_of_le hlb HK2.out.size))).trans hcell2
            obtain ⟨h, hh⟩ : ∃ h : Nat, h = m / 2 := ⟨_, rfl⟩
            have HS3 := Lib.hid (HS2.out.kept (T := noneB) ((Byt.Kept.refl noneB w2).drew) id (fun _ _ => id))
            have HBK2 := Lib.hid (HBK.out.kept HK2.out (fun _ _ _ => id))
            have HNB2 : Hid (¬ putB w.heap.size sv lb) := Lib.hid (fun e => by
              rcases e with e | e
              · omega
              · have := (HP.out.snk.own.lt _ e).1
                omega)
            by_cases hch : c = h
            · obtain rfl : c = 0 := by omega
              obtain rfl : m = 0 := by omega
              obtain rfl : h = 0 := by omega
              clear hh
              have hw0 : IntKind.i64.wrap 0 = 0 := by decide
              have HPUT := Lib.hid (put3_any w2.drew w.heap.size w.heap.size sv X HS3.out HK2.out.size q 0 0 [] q 0 0 [] (BAt.none_ _ _) rfl (fun h0 => absurd h0 (by omega)) (BAt.none_ _ _) rfl (fun h0 => absurd h0 (by omega)) (by have := HX.out; omega))
              have hx0 : [] ++ [] = xs := by rw [List.eq_nil_of_length_eq_zero HBL.out]; rfl
              rw [hx0] at HPUT
              clear hx0
              go_region_held3 (fun w' => w'.cell? ⟨lb, lo + k, none⟩ = some (.slice q 0 0)) (first | exact hcell4 | exact hcell2 | exact hcellA _) (first | (go_at_call 17; refine HPUT.out.mono ?_; rintro e w4 ⟨v', rfl, hs4, hk4, hn4⟩; have hcell4 := (World.cell?_of_block (a := ⟨lb, lo + k, none⟩) (hk4.block lb (Nat.lt_of_lt_of_le hlb HK2.out.size) HNB2.out)).trans hcell2))
              all_goals
                have hst := sink_step HS3.out (HO2.out.kept (T := noneB) ((Byt.Kept.refl noneB w2).drew) (fun _ _ => id)) HA2.out HK2.out.drew (Nat.le_refl _) hk4 hn4
                have hlen : (X ++ xs).length ≤ 4000 * (k + 1) := by rw [List.length_append, HBL.out]; have := HX.out; omega
                have HF : Hid (∃ sv X, X.length ≤ 4000 * (k + 1) ∧ PutsInv w w.heap.size sv v2 X w4) := Lib.hid ⟨v', X ++ xs, hlen, ⟨hs4, hst.1, hst.2.1, hst.2.2⟩⟩
                clear hst hlen hs4 hk4 hn4 hcell4
                go_wp2_with fail
                go_roundw
                case rel => exact ⟨k + 1, by omega, Or.inr hn40, by go_num, HF⟩
                case measure => simp [RowKit.intOf]; omega
            · have hq2 : (m : Int) / 2 = (h : Int) := by omega
              have hm1 : (h : Int) ≤ (c : Int) := by omega
              have hm2 : (h : Int) ≤ (m : Int) := by omega
              have hm3' : h ≤ m := by omega
              have hwr : IntKind.i64.wrap (h : Int) = (h : Int) := by rw [IntKind.wrap_i64]; omega
              have hdr := HBK2.out.drop hm3' hmc HBL.out
              rw [if_neg hch] at hdr
              have HH := Lib.hid hh
              clear hh
              have HPUT := Lib.hid (put3_any w2.drew w.heap.size w.heap.size sv X HS3.out HK2.out.size q h c (xs.take h) (q.map (·.add h)) (m - h) (c - h) (xs.drop h) (HBK2.out.take hm3') (by rw [List.length_take, HBL.out]; omega) (fun h0 => hoff.out (by omega)) hdr (by rw [List.length_drop, HBL.out]) (fun h0 x hx => by
                obtain ⟨y, hy, rfl⟩ := Option.map_eq_some_iff.1 hx
                have := hoff.out (by omega) y hy
                unfold Addr.add
                split <;> exact this) (by have := HX.out; omega))
              rw [List.take_append_drop] at HPUT
              clear hdr
              go_region_held3 (fun w' => w'.cell? ⟨lb, lo + k, none⟩ = some (.slice q m c)) (first | exact hcell4 | exact hcell2 | exact hcellA _) (first | (go_at_call 17; refine HPUT.out.mono ?_; rintro e w4 ⟨v', rfl, hs4, hk4, hn4⟩; have hcell4 := (World.cell?_of_block (a := ⟨lb, lo + k, none⟩) (hk4.block lb (Nat.lt_of_lt_of_le hlb HK2.out.size) HNB2.out)).trans hcell2))
              all_goals
                have hst := sink_step HS3.out (HO2.out.kept (T := noneB) ((Byt.Kept.refl noneB w2).drew) (fun _ _ => id)) HA2.out HK2.out.drew (Nat.le_refl _) hk4 hn4
                have hlen : (X ++ xs).length ≤ 4000 * (k + 1) := by rw [List.length_append, HBL.out]; have := HX.out; omega
                have HF : Hid (∃ sv X, X.length ≤ 4000 * (k + 1) ∧ PutsInv w w.heap.size sv v2 X w4) := Lib.hid ⟨v', X ++ xs, hlen, ⟨hs4, hst.1, hst.2.1, hst.2.2⟩⟩
                clear hst hlen hs4 hk4 hn4 hcell4
                go_wp2_with fail
                go_roundw
                case rel => exact ⟨k + 1, by omega, Or.inr hn40, by go_num, HF⟩
                case measure => simp [RowKit.intOf]; omega
    · obtain rfl : k = n0 := by omega
      have hX4 : X.length ≤ 160000 := by have := HX.out; omega
      have HX4 := Lib.hid hX4
      clear hX4
      go_wp2_with fail
      refine (end_any wr w.heap.size w.heap.size sv X HP.out.snk HP.out.kept.size (by have := HX4.out; omega)).mono ?_
      rintro e w2 ⟨v2, rfl, hs2, hk2, hn2⟩
      have hst := sink_step HP.out.snk HP.out.own HP.out.apart HP.out.kept (Nat.le_refl _) hk2 hn2
      obtain ⟨Y, hY⟩ : ∃ Y, Y = X ++ List.replicate 1024 0 := ⟨_, rfl⟩
      rw [← hY] at hs2
      obtain ⟨ds, hds⟩ : ∃ ds : ByteArray, ds = ⟨Y.toArray⟩ := ⟨_, rfl⟩
      have HY := Lib.hid hY
      have HDS := Lib.hid hds
      have hYl : Y.length ≤ 161024 := by rw [hY, List.length_append, List.length_replicate]; have := HX4.out; omega
      have HYL := Lib.hid hYl
      have HSx := Lib.hid (hs2.kept (T := noneB) ((Byt.Kept.refl noneB w2).drew) id (fun _ _ => id))
      have HWx := Lib.hid (hst.1.kept (T := noneB) ((Byt.Kept.refl noneB w2).drew) (fun _ _ => id))
      have HAx := Lib.hid hst.2.1
      have HKx := Lib.hid hst.2.2.drew
      clear hs2 hk2 hn2 hst hY hds hYl
      go_wp2_with fail
      go_region_held_law (fun w' => w'.os = w'.os) (rfl) (first
        | (refine step_zeros (by kernel_rfl) _ _ 22 3 rfl w.heap.size 5 i0 .i64 .i64 Tryd.underlying22 Tryd.underlying3 HI.out HZ0.out HZ1.out HZ2.out u6 _ _ rfl HWx.out 1024 1024 rfl rfl ?_ ?_ ?_
           (have := HX4.out; omega)
           (exact HKx.out.size)
           intro vz wz hoz hgz hnz
           have hst := want_step HSx.out HWx.out HAx.out HKx.out hgz hnz
           have hoz2 := own_zeros rfl hoz
           rw [← HY.out] at hoz2
           obtain ⟨pz, cz, rfl, _, _, hbz, hlz, _⟩ := hoz2.slice
           have cs2 : (convert 22 9 (.slice pz Y.length cz)).run Tryd.prog wz = .ok (.string ds) wz := by
             rw [HDS.out]
             exact conv_at hbz hlz _ _ _ Tryd.underlying22 Tryd.underlying5 Tryd.underlying9 cz
           have HBz := Lib.hid hbz
           have hkz : Byt.Kept (fun x => u6.ownBlock = some x) _ wz := (Byt.Kept.refl _ _).grown hgz (fun x hx => Or.inr hx)
           (try have HBo := Lib.hid (HBo.out.kept hkz (fun _ x hx e => HOo.out x hx e)))
           (try have cs1 : (convert 22 9 (.slice po Y.length co)).run Tryd.prog wz = .ok (.string ds) wz := by rw [HDS.out]; exact conv_at HBo.out rfl _ _ _ Tryd.underlying22 Tryd.underlying5 Tryd.underlying9 co)
           have HSx := Lib.hid hst.1
           have HKx := Lib.hid hst.2.2
           clear hst hoz hoz2 hgz hnz hbz hlz hkz)
        | (go_at_call 8
           refine (ans03_any _).mono ?_
           rintro e wa ⟨rfl, hka⟩
           have HSx := Lib.hid (HSx.out.kept hka id (fun _ _ => id))
           have HWx := Lib.hid (HWx.out.kept hka (fun _ _ => id))
           have HKx := Lib.hid (HKx.out.trans hka)
           clear hka)
        | (go_at_call 19
           refine (out_any _ w.heap.size w.heap.size v2 Y HSx.out (by have := HYL.out; omega)).mono ?_
           rintro e wo ⟨vo, rfl, hoo, hko⟩
           obtain ⟨po, co, rfl, _, _, hbo, hlo, hpo⟩ := hoo.slice
           have HOo : Hid (∀ x, po = some x → u6.ownBlock ≠ some x.block) := Lib.hid (fun x hx e => by
             have h1 := (hpo x hx).1
             have h2 := (HWx.out.lt _ e).2
             omega)
           have cs1 : (convert 22 9 (.slice po Y.length co)).run Tryd.prog wo = .ok (.string ds) wo := by
             rw [HDS.out]
             exact conv_at hbo hlo _ _ _ Tryd.underlying22 Tryd.underlying5 Tryd.underlying9 co
           have HBo := Lib.hid hbo
           (try have HBz := Lib.hid (HBz.out.kept hko (fun _ _ _ => id)))
           (try have cs2 : (convert 22 9 (.slice pz Y.length cz)).run Tryd.prog wo = .ok (.string ds) wo := by rw [HDS.out]; exact conv_at HBz.out rfl _ _ _ Tryd.underlying22 Tryd.underlying5 Tryd.underlying9 cz)
           have HSx := Lib.hid (HSx.out.kept hko id (fun _ _ => id))
           (try have HWx := Lib.hid (HWx.out.kept hko (fun _ _ => id)))
           have HKx := Lib.hid (HKx.out.trans hko)
           clear hoo hko hbo hlo hpo))
      all_goals
        go_wp2
        go_ret
        exact ⟨rfl, HKx.out.below (Nat.le_refl _) (fun _ h => h.elim)⟩
theorem blockPuts (a0 : Option Addr) (len0 cap0 : Nat) (A0 : Nat → Option Addr) (M0 C0 : Nat → Nat) (B0 : Nat → List UInt8) (a1 : Option Addr) (len1 cap1 : Nat) (T1 : Nat → Bool) (w : World)
    (w0 : LAt w a0 len0 A0 M0 C0 B0) (m0 : ∀ i, i < len0 → M0 i ≤ C0 i ∧ C0 i ≤ maxLen) (c0 : len0 ≤ cap0 ∧ cap0 ≤ maxLen) (w1 : TAt w a1 len1 T1) (c1 : len1 ≤ cap1 ∧ cap1 ≤ maxLen) :
    Calls Tryd.prog 5 #[.slice a0 len0 cap0, .slice a1 len1 cap1] w fun e w' => e = .returned (.bool true) ∧ Below w.heap.size w w' :=
  blockPuts' a0 len0 cap0 A0 M0 C0 B0 a1 len1 cap1 T1 w w0 m0 c0 w1 c1
end Go.Proofs.YtindibabpfdljaaDoor.Walk
