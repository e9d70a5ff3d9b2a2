/- Layer path's Clean, by contract: P5.1 of every text. -/
import Derived.Test.YtdnelijkhinpcaaDoorPathSeq
namespace Go.Proofs.YtdnelijkhinpcaaDoor.Path
open Go.ChangeShapes Go.WideShapes Go.ChangeAt Go.RowKit Go.Shelf Go.Proofs.YtdnelijkhinpcaaDoor.Base Go.Proofs.YtdnelijkhinpcaaDoor.Byt Go.Proofs.YtdnelijkhinpcaaDoor.Txt Go.Lib Go.Proofs.YtdnelijkhinpcaaDoor.Num
set_option linter.unusedVariables false
set_option maxRecDepth 100000
attribute [local go_sem] Oper.semAt_some

theorem goP_app (a b : List (List UInt8)) : ∀ c, goP c (a ++ b) = (goP c a).bind fun d => goP d b := by
  induction a with
  | nil => intro c; rfl
  | cons p a ih =>
    intro c
    rw [List.cons_append, goP, goP]
    split
    · rfl
    · exact ih _
theorem goP_snoc (pre : List (List UInt8)) (p c d : List UInt8) (h : goP c pre = some d) : goP c (pre ++ [p]) = if p = [46, 46] ∨ 200 < (joinP d p).length then none else some (joinP d p) := by
  rw [goP_app, h, Option.bind_some]
  unfold goP
  split <;> rfl
theorem goP_le (ps : List (List UInt8)) : ∀ c d, c.length ≤ 200 → goP c ps = some d → d.length ≤ 200 := by
  induction ps with
  | nil => intro c d hc h; cases h; exact hc
  | cons p ps ih =>
    intro c d hc h
    unfold goP at h
    split at h
    · cases h
    · next hn => exact ih _ _ (by rcases Nat.lt_or_ge 200 (joinP c p).length with h' | h'; exact absurd (.inr h') hn; exact h') h
theorem goP_none (a b : List (List UInt8)) (h : goP [] a = none) : goP [] (a ++ b) = none := by rw [goP_app, h]; rfl
theorem head_slash_iff (l : List UInt8) : Lib.hasPrefix l [47] = decide (l.head? = some 47) := by
  cases l with
  | nil => simp [Lib.hasPrefix]
  | cons b t =>
    by_cases h : b = 47
    · subst h; simp [Lib.hasPrefix]
    · have h' : ¬ (47 : UInt8) = b := fun e => h e.symm
      simp [Lib.hasPrefix, List.isPrefixOf, h, h']
/-- a cell of one's own -/
def Cell (W : World) (b : Nat) (v : Value) : Prop := W.cell? ⟨b, 0, none⟩ = some v ∧ W.frozen? ⟨b, 0, none⟩ = false
theorem Cell.kept {W W' : World} {b : Nat} {v : Value} (h : Cell W b v) {row : Option Nat} (hg : W.grownBy W' row) (hr : ∀ r, row = some r → ∃ o : Obj, W.heap[r]? = some o ∧ o.isCells = false) : Cell W' b v :=
  ⟨cell_kept h.1 hg hr, (frozen_kept h.1 hg hr).trans h.2⟩
theorem Cell.below {W W' : World} {b n : Nat} {v : Value} (h : Cell W b v) (hb : Below n W W') (hn : b < n) : Cell W' b v :=
  ⟨(hb.cell (p := ⟨b, 0, none⟩) hn).trans h.1, (hb.frozen (p := ⟨b, 0, none⟩) hn).trans h.2⟩
theorem Cell.new (W : World) (v : Value) (t : TypeId) : Cell (W.alloc (.cells #[v] t)) W.heap.size v := by
  have h := World.alloc_heap_new W (.cells #[v] t)
  unfold Cell World.cell? World.frozen?
  rw [h]
  exact ⟨rfl, rfl⟩
theorem Cell.alloc {W : World} {b : Nat} {v : Value} (h : Cell W b v) (o : Obj) : Cell (W.alloc o) b v := h.kept (World.grownBy_alloc W o none) (fun r e => by cases e)
theorem Cell.set {W : World} {b : Nat} {v : Value} (h : Cell W b v) (u : Value) : Cell (W.setCell ⟨b, 0, none⟩ u) b u :=
  ⟨World.cell?_setCell_same' _ _ _ (by rw [h.1]; rfl), by rw [World.frozen?_setCell]; exact h.2⟩
theorem Cell.other {W : World} {b b' : Nat} {v : Value} (h : Cell W b v) (u : Value) (hne : b' ≠ b) : Cell (W.setCell ⟨b', 0, none⟩ u) b v :=
  ⟨(World.cell?_setCell_other _ _ _ _ (fun e => hne (congrArg Addr.block e))).trans h.1, by rw [World.frozen?_setCell]; exact h.2⟩
/-- of a right text -/
def restD (P : Int) (l : List UInt8) : List UInt8 × Int :=
  if l.head? = some 47 then ([], P) else match goP [] (partsL l) with | none => ([], P) | some a => if a = [] then ([], P) else (a, 0)
theorem clean_rest (T P : Int) (l : List UInt8) : cleanD T P l = if textD l = false then ([], T) else restD P l := clean_goP T P l
theorem ret_cells (W : World) (tm : Array Value) (b0 b1 : Nat) (s : ByteArray) (e : Int) (h0 : tm[2]? = some (.pointer (some ⟨b0, 0, none⟩))) (h1 : tm[3]? = some (.pointer (some ⟨b1, 0, none⟩)))
    (c0 : Cell W b0 (.string s)) (c1 : Cell W b1 (.int .i64 e)) : (results Tryd.f9 tm).run Tryd.prog W = .ok (.tuple #[.string s, .int .i64 e]) W := by
  obtain ⟨c00, c01⟩ := c0
  obtain ⟨c10, c11⟩ := c1
  simp [results, Tryd.f9, go_sem, h0, h1, c00, c10]
set_option maxHeartbeats 2000000 in
theorem clean_any (l : List UInt8) (w : World) (hm : l.length ≤ 1000000000000) (hT : Tabs w) :
    Calls Tryd.prog 9 #[.string (str l)] w fun e w' => e = .returned (.tuple #[.string (str (cleanD 9 6 l).1), .int .i64 (cleanD 9 6 l).2]) ∧ Below w.heap.size w w' := by
  have hR := fun w hT => right_any l w hm hT
  have hP := fun w => Any.strings_HasPrefix Tryd.laysPrefix (str l) ⟨#[47]⟩ w
  rw [clean_rest]
  simp only [str_data, head_slash_iff] at hP
  refine (callsIn_wide (n := 3)).1 ?_
  refine callsIn_of_wp_marks Tryd.func9 rfl trivial ?_ rfl
  simp only [Tryd.ntmps9, List.size_toArray, List.length_cons, List.length_nil, Nat.reduceAdd, Nat.reduceSub, Array.replicate_succ, Array.replicate_zero, List.push_toArray, List.append_toArray, List.nil_append, List.cons_append]
  have hB0 : Below w.heap.size w ((w.alloc (.cells #[.string ⟨#[]⟩] 9)).alloc (.cells #[.int .i64 0] 23)) := ((Below.refl _ _).alloc (Nat.le_refl _) _).alloc (by simp) _
  have hT0 := hT.below hB0
  have c0 : Cell ((w.alloc (.cells #[.string ⟨#[]⟩] 9)).alloc (.cells #[.int .i64 0] 23)) w.heap.size (.string ⟨#[]⟩) := (Cell.new w _ _).alloc _
  have c1 : Cell ((w.alloc (.cells #[.string ⟨#[]⟩] 9)).alloc (.cells #[.int .i64 0] 23)) (w.heap.size + 1) (.int .i64 0) := by
    have := Cell.new (w.alloc (.cells #[.string ⟨#[]⟩] 9)) (.int .i64 0) 23
    rwa [World.size_alloc] at this
  have HC := Lib.hid (And.intro c0 c1)
  have HB := Lib.hid hB0
  clear c0 c1 hB0 hT
  cases ht : textD l with
  | false =>
    rw [if_pos rfl]
    have hR' := hR _ hT0
    rw [ht] at hR'
    gi_wp2_with fail
    refine ⟨trivial, (callsIn_wide.2 hR').mono ?_⟩
    rintro e w1 ⟨rfl, hb⟩
    simp only [World.size_alloc] at hb
    obtain ⟨d00, d01⟩ := HC.out.1.below hb (by omega)
    obtain ⟨d10, d11⟩ := HC.out.2.below hb (by omega)
    have HB1 := Lib.hid (HB.out.trans (hb.mono (by omega)))
    clear hb hR' hT0 hR hP
    gi_wp2_with fail
    refine ⟨_, ret_cells _ _ w.heap.size (w.heap.size + 1) ⟨#[]⟩ 9 rfl rfl (((show Cell w1 w.heap.size _ from ⟨d00, d01⟩).set _).other _ (by omega)) (((show Cell w1 (w.heap.size + 1) _ from ⟨d10, d11⟩).other _ (by omega)).set _), rfl, ?_⟩
    exact (HB1.out.setCell (p := ⟨w.heap.size, 0, none⟩) (Nat.le_refl _) _).setCell (p := ⟨w.heap.size + 1, 0, none⟩) (by simp) _
  | true =>
    rw [if_neg (by simp)]
    have hR' := hR _ hT0
    rw [ht] at hR'
    obtain ⟨G, hG⟩ : ∃ G, restD 6 l = G := ⟨_, rfl⟩
    rw [hG]
    unfold restD at hG
    have HG := Lib.hid hG
    clear hG
    gi_wp2_with fail
    refine ⟨trivial, (callsIn_wide.2 hR').mono ?_⟩
    rintro e w1 ⟨rfl, hb⟩
    simp only [World.size_alloc] at hb
    have d0 := HC.out.1.below hb (by omega)
    have d1 := HC.out.2.below hb (by omega)
    have HS1 : Hid (w.heap.size + 2 ≤ w1.heap.size) := Lib.hid (by have := hb.size; rw [World.size_alloc, World.size_alloc] at this; omega)
    have HB1 := Lib.hid (HB.out.trans (hb.mono (by omega)))
    clear hb hR' hT0 hR
    have hP' := hP w1
    clear hP
    by_cases h0 : l.head? = some 47
    · obtain rfl : ([], 6) = G := by rw [← HG.out, if_pos h0]
      rw [decide_eq_true h0] at hP'
      clear h0
      obtain ⟨d00, d01⟩ := d0
      obtain ⟨d10, d11⟩ := d1
      gi_wp2_with fail
      refine ⟨trivial, (callsIn_wide.2 hP').mono ?_⟩
      rintro e w' ⟨rfl, rfl⟩
      gi_wp2_with fail
      refine ⟨_, ret_cells _ _ w.heap.size (w.heap.size + 1) ⟨#[]⟩ 6 rfl rfl (((show Cell w' w.heap.size _ from ⟨d00, d01⟩).set _).other _ (by omega)) (((show Cell w' (w.heap.size + 1) _ from ⟨d10, d11⟩).other _ (by omega)).set _), rfl, ?_⟩
      exact (HB1.out.setCell (p := ⟨w.heap.size, 0, none⟩) (Nat.le_refl _) _).setCell (p := ⟨w.heap.size + 1, 0, none⟩) (by simp) _
    · have hG := HG.out
      rw [if_neg h0] at hG
      rw [decide_eq_false h0] at hP'
      have HG2 := Lib.hid hG
      clear h0 HG hG
      have HD := Lib.hid (And.intro d0 d1)
      clear d0 d1
      gi_wp2_with fail
      refine ⟨trivial, (callsIn_wide.2 hP').mono ?_⟩
      rintro e w' ⟨rfl, rfl⟩
      gi_wp2_with fail
      have HB2 : Hid (Below w.heap.size w ((w'.alloc (.cells #[.string ⟨#[]⟩] 9)).alloc (.cells #[.string (str l)] 9))) :=
        Lib.hid ((HB1.out.alloc (by have := HS1.out; omega) _).alloc (by have := HS1.out; rw [World.size_alloc]; omega) _)
      have HX := Lib.hid (((Cell.new w' (.string ⟨#[]⟩) 9)).alloc (.cells #[.string (str l)] 9))
      have HY := Lib.hid (And.intro ((HD.out.1.alloc (.cells #[.string ⟨#[]⟩] 9)).alloc (.cells #[.string (str l)] 9)) ((HD.out.2.alloc (.cells #[.string ⟨#[]⟩] 9)).alloc (.cells #[.string (str l)] 9)))
      have HZ := Lib.hid (Cell.new (w'.alloc (.cells #[.string ⟨#[]⟩] 9)) (.string (str l)) 9)
      clear HB1 HD HC
      obtain ⟨ps, hps⟩ := some_parts l hm
      refine ⟨trivial, (callsIn_wide.2 (parts_any l _)).mono ?_⟩
      rintro e w2 ⟨rfl, rfl⟩
      gi_wp2_with fail
      obtain ⟨n1, hn1⟩ : ∃ n1, w'.heap.size = n1 := ⟨_, rfl⟩
      obtain ⟨W0, hW0⟩ : ∃ W0, (w'.alloc (.cells #[.string ⟨#[]⟩] 9)).alloc (.cells #[.string (str l)] 9) = W0 := ⟨_, rfl⟩
      have HN : Hid (W0.heap.size = n1 + 2 ∧ w.heap.size + 2 ≤ n1) := Lib.hid (by rw [← hW0, World.size_alloc, World.size_alloc]; exact ⟨by omega, by have := HS1.out; omega⟩)
      rw [hW0] at HB2 HX HY HZ ⊢
      rw [World.size_alloc] at HZ
      rw [hn1] at HX HZ ⊢
      clear hW0 HS1 hn1 HB
      refine wpIn_rangeFunc_ownF rfl (by omega) (gf := 22) (lb := #[.pointer (some ⟨n1 + 1, 0, none⟩)]) rfl trivial (enters_of Tryd.func22 (by kernel_rfl) rfl)
        (seq_stops _ (by omega) (n1 + 1) l hm ps hps W0 (by rw [HN.out.1]; omega) HZ.out.1) (fun _ _ => trivial) (fun _ _ _ _ _ _ _ _ => trivial) (Below.refl _ _) (fun _ => rfl)
        (fun pre W => (∃ c, goP [] (pre.map (·.1)) = some c ∧ Cell W n1 (.string (str c)) ∧ Cell W w.heap.size (.string ⟨#[]⟩) ∧ Cell W (w.heap.size + 1) (.int .i64 0)) ∧ Below w.heap.size w W)
        (fun c pre W => (c = .ret ∧ goP [] (pre.map (·.1)) = none ∧ Cell W w.heap.size (.string ⟨#[]⟩) ∧ Cell W (w.heap.size + 1) (.int .i64 6)) ∧ Below w.heap.size w W)
        (OwnFrom.and (Own.from (fun s A B row hs hg hr => by obtain ⟨c, h1, h2, h3, h4⟩ := hs; exact ⟨c, h1, h2.kept hg hr, h3.kept hg hr, h4.kept hg hr⟩) _) (ownFrom_below (Nat.le_refl _) (by rw [HN.out.1]; have := HN.out.2; omega)))
        (fun c => OwnFrom.and (Own.from (fun s A B row hs hg hr => ⟨hs.1, hs.2.1, hs.2.2.1.kept hg hr, hs.2.2.2.kept hg hr⟩) _) (ownFrom_below (Nat.le_refl _) (by rw [HN.out.1]; have := HN.out.2; omega)))
        ⟨⟨[], rfl, HX.out, HY.out.1, HY.out.2⟩, HB2.out⟩
        (fun x => { tmps := #[.string (str l), undef, .pointer (some ⟨w.heap.size, 0, none⟩), .pointer (some ⟨w.heap.size + 1, 0, none⟩), .pointer (some ⟨n1, 0, none⟩), .string (str x.1), .string (str l), .bool true, .bool false, .string (str l), .bool false, .string (str l), .func (.func 22) #[] #[.pointer (some ⟨n1 + 1, 0, none⟩)], .string (str x.1), undef, undef, undef, undef, undef, undef, undef, undef, undef, undef, undef, undef, undef], defers := [] }) ?assign ?body ?done ?stop
      case assign =>
        intro l x W K hK
        gi_wp2
        exact hK
      case body =>
        rintro l' pre x W ⟨⟨c, hg, c0, c1, c2⟩, hB⟩ _
        have hc := goP_le _ _ _ (by simp) hg
        have hj := join_any c x.1 W (by have := x.2; omega)
        have hs := goP_snoc _ x.1 _ _ hg
        obtain ⟨d, hd⟩ : ∃ d, joinP c x.1 = d := ⟨_, rfl⟩
        rw [hd] at hj hs
        have e0 := (c0.set (.string (str d)))
        have e1 := (c1.other (.string (str d)) (show n1 ≠ _ by have := HN.out.2; omega))
        have e2 := (c2.other (.string (str d)) (show n1 ≠ _ by have := HN.out.2; omega))
        have hB1 := hB.setCell (p := ⟨n1, 0, none⟩) (show w.heap.size ≤ n1 by have := HN.out.2; omega) (.string (str d))
        have HE := Lib.hid (And.intro e1 (And.intro e2 hB1))
        have hsz : ((str d).size : Int) = d.length := by rw [str_size]
        obtain ⟨f0, f1⟩ := c0
        have HP := Lib.hid hd
        by_cases hx : x.1 = [46, 46]
        · have b1 : ((str x.1).toList == [46, 46]) = true := by rw [str_is]; simpa using hx
          rw [if_pos (.inl hx)] at hs
          have hs' : goP [] ((pre ++ [x]).map (·.1)) = none := by rw [List.map_append]; exact hs
          have HS' := Lib.hid hs'
          clear hs hs' hx hd hg hc e1 e2 c1 c2 hB hB1 hsz
          gi_wp2_with fail
          refine ⟨trivial, (CallsIn.inRound l' (callsIn_wide.2 hj)).mono ?_⟩
          rintro e w3 ⟨rfl, rfl⟩
          obtain ⟨e00, e01⟩ := e0
          obtain ⟨g00, g01⟩ := HE.out.1
          obtain ⟨g10, g11⟩ := HE.out.2.1
          gi_wp2
          exact ⟨((KeepsOthers.setCell _ _ _).trans (KeepsOthers.setCell _ _ _)).trans (KeepsOthers.setCell _ _ _), ⟨rfl, HS'.out, (HE.out.1.set _).other _ (by omega), (HE.out.2.1.other _ (by omega)).set _⟩, (HE.out.2.2.setCell (p := ⟨w.heap.size, 0, none⟩) (Nat.le_refl _) _).setCell (p := ⟨w.heap.size + 1, 0, none⟩) (by simp) _⟩
        · have b1 : ((str x.1).toList == [46, 46]) = false := by rw [str_is]; simpa using hx
          obtain ⟨n, hn⟩ : ∃ n, (str d).size = n := ⟨_, rfl⟩
          by_cases h2 : 200 < d.length
          · have b2 : (200 : Int) < (n : Int) := by omega
            rw [if_pos (.inr h2)] at hs
            have hs' : goP [] ((pre ++ [x]).map (·.1)) = none := by rw [List.map_append]; exact hs
            have HS' := Lib.hid hs'
            clear hs hs' hx hd hg hc e1 e2 c1 c2 hB hB1 hsz h2
            gi_wp2_with fail
            refine ⟨trivial, (CallsIn.inRound l' (callsIn_wide.2 hj)).mono ?_⟩
            rintro e w3 ⟨rfl, rfl⟩
            obtain ⟨e00, e01⟩ := e0
            obtain ⟨g00, g01⟩ := HE.out.1
            obtain ⟨g10, g11⟩ := HE.out.2.1
            gi_wp2
            exact ⟨((KeepsOthers.setCell _ _ _).trans (KeepsOthers.setCell _ _ _)).trans (KeepsOthers.setCell _ _ _), ⟨rfl, HS'.out, (HE.out.1.set _).other _ (by omega), (HE.out.2.1.other _ (by omega)).set _⟩, (HE.out.2.2.setCell (p := ⟨w.heap.size, 0, none⟩) (Nat.le_refl _) _).setCell (p := ⟨w.heap.size + 1, 0, none⟩) (by simp) _⟩
          · have b2 : ¬ (200 : Int) < (n : Int) := by omega
            rw [if_neg (fun h => h.elim hx h2)] at hs
            have hs' : goP [] ((pre ++ [x]).map (·.1)) = some d := by rw [List.map_append]; exact hs
            have HS' := Lib.hid hs'
            clear hs hs' hx hd hg hc e1 e2 c1 c2 hB hB1 hsz h2
            gi_wp2_with fail
            refine ⟨trivial, (CallsIn.inRound l' (callsIn_wide.2 hj)).mono ?_⟩
            rintro e w3 ⟨rfl, rfl⟩
            obtain ⟨e00, e01⟩ := id e0
            obtain ⟨g00, g01⟩ := HE.out.1
            obtain ⟨g10, g11⟩ := HE.out.2.1
            gi_wp2
            exact ⟨KeepsOthers.setCell _ _ _, trivial, ⟨d, HS'.out, e0, HE.out.1, HE.out.2.1⟩, HE.out.2.2⟩
      case done =>
        rintro D ys W hD rfl ⟨⟨c, hg, c0, c1, c2⟩, hB⟩ hK
        rw [hps] at hg
        have hG := HG2.out
        rw [hg] at hG
        simp only at hG
        have hDw : w.heap.size ≤ D := by have := HN.out; omega
        obtain ⟨f0, f1⟩ := id c0
        obtain ⟨g00, g01⟩ := id c1
        obtain ⟨g10, g11⟩ := id c2
        have HE := Lib.hid (And.intro c1 (And.intro c2 hB))
        have HK := Lib.hid hK
        by_cases hc : c = []
        · have b1 : (str c).toList.isEmpty = true := by rw [str_empty]; simpa using hc
          obtain rfl : ([], 6) = G := by rw [← hG, if_pos hc]
          clear hG hc hg HG2 c0 c1 c2 hB hK
          gi_wp2
          have hK' := ((KeepsOthers.setCell W ⟨w.heap.size, 0, none⟩ (.string ⟨#[]⟩)).trans (KeepsOthers.setCell _ ⟨w.heap.size + 1, 0, none⟩ (.int .i64 6))).same D _ HK.out rfl
          refine ⟨by simp, .inl ⟨_, _, rfl, run_takeDeferred hK', ?_⟩⟩
          have k0 := ((HE.out.1.set (.string ⟨#[]⟩)).other (.int .i64 6) (show w.heap.size + 1 ≠ _ by omega)).kept (grownBy_putObj' _ D (.deferred none)) (fun r e => by cases e; exact ⟨_, hK', rfl⟩)
          have k1 := ((HE.out.2.1.other (.string ⟨#[]⟩) (show w.heap.size ≠ _ by omega)).set (.int .i64 6)).kept (grownBy_putObj' _ D (.deferred none)) (fun r e => by cases e; exact ⟨_, hK', rfl⟩)
          exact ⟨_, ret_cells _ _ w.heap.size (w.heap.size + 1) ⟨#[]⟩ 6 rfl rfl k0 k1, rfl, ((HE.out.2.2.setCell (p := ⟨w.heap.size, 0, none⟩) (Nat.le_refl _) _).setCell (p := ⟨w.heap.size + 1, 0, none⟩) (by simp) _).trans (belowK_b (w := w) (Nat.le_refl _) _ D _ _ hDw hK' rfl rfl)⟩
        · have b1 : (str c).toList.isEmpty = false := by rw [str_empty]; simpa using hc
          obtain rfl : (c, 0) = G := by rw [← hG, if_neg hc]
          clear hG hc hg HG2 c0 c1 c2 hB hK
          gi_wp2
          have hK' := ((KeepsOthers.setCell W ⟨w.heap.size, 0, none⟩ (.string (str c))).trans (KeepsOthers.setCell _ ⟨w.heap.size + 1, 0, none⟩ (.int .i64 0))).same D _ HK.out rfl
          refine ⟨by simp, .inl ⟨_, _, rfl, run_takeDeferred hK', ?_⟩⟩
          have k0 := ((HE.out.1.set (.string (str c))).other (.int .i64 0) (show w.heap.size + 1 ≠ _ by omega)).kept (grownBy_putObj' _ D (.deferred none)) (fun r e => by cases e; exact ⟨_, hK', rfl⟩)
          have k1 := ((HE.out.2.1.other (.string (str c)) (show w.heap.size ≠ _ by omega)).set (.int .i64 0)).kept (grownBy_putObj' _ D (.deferred none)) (fun r e => by cases e; exact ⟨_, hK', rfl⟩)
          exact ⟨_, ret_cells _ _ w.heap.size (w.heap.size + 1) (str c) 0 rfl rfl k0 k1, rfl, ((HE.out.2.2.setCell (p := ⟨w.heap.size, 0, none⟩) (Nat.le_refl _) _).setCell (p := ⟨w.heap.size + 1, 0, none⟩) (by simp) _).trans (belowK_b (w := w) (Nat.le_refl _) _ D _ _ hDw hK' rfl rfl)⟩
      case stop =>
        rintro D c pre W hD hpre ⟨⟨rfl, hn, c1, c2⟩, hB⟩ hK
        have hG := HG2.out
        obtain ⟨tl, htl⟩ := hpre
        rw [← hps, ← htl, List.map_append, goP_none _ _ hn] at hG
        obtain rfl : ([], 6) = G := hG
        have hDw : w.heap.size ≤ D := by have := HN.out; omega
        have HE := Lib.hid (And.intro c1 (And.intro c2 hB))
        have HK := Lib.hid hK
        clear htl hn HG2 c1 c2 hB hK
        gi_wp2
        have hK' := HK.out
        refine ⟨by simp, .inl ⟨_, _, rfl, run_takeDeferred hK', ?_⟩⟩
        have k0 := HE.out.1.kept (grownBy_putObj' _ D (.deferred none)) (fun r e => by cases e; exact ⟨_, hK', rfl⟩)
        have k1 := HE.out.2.1.kept (grownBy_putObj' _ D (.deferred none)) (fun r e => by cases e; exact ⟨_, hK', rfl⟩)
        exact ⟨_, ret_cells _ _ w.heap.size (w.heap.size + 1) ⟨#[]⟩ 6 rfl rfl k0 k1, rfl, HE.out.2.2.trans (belowK_b (w := w) (Nat.le_refl _) _ D _ _ hDw hK' rfl rfl)⟩
end Go.Proofs.YtdnelijkhinpcaaDoor.Path
