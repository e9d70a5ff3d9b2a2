/- What records make of a head: layer attr's Apply, by contract. -/
import Derived.Test.YtfmhdkemigpjjaaDoorAttrState
import Derived.Test.YtfmhdkemigpjjaaDoorHeadV
import Derived.Laws.ResultCell
namespace Go.Proofs.YtfmhdkemigpjjaaDoor.Attr
open Go.ChangeShapes Go.WideShapes Go.ChangeAt Go.RowKit Go.Shelf Go.Proofs.YtfmhdkemigpjjaaDoor.Base Go.Proofs.YtfmhdkemigpjjaaDoor.Byt Go.Proofs.YtfmhdkemigpjjaaDoor.Txt Go.Proofs.YtfmhdkemigpjjaaDoor.Rec Go.Proofs.YtfmhdkemigpjjaaDoor.Bk Go.Proofs.YtfmhdkemigpjjaaDoor.Hp Go.Proofs.YtfmhdkemigpjjaaDoor.Head Go.Lib
set_option linter.unusedVariables false
set_option maxRecDepth 100000

theorem ret_headB {fn : Func} (hf : fn.results = #[.cell 6 25, .tmp 7]) (tmps : Array Value) (w : World) (g : Nat) (v : Value) (ht : tmps.getD 6 undef = .pointer (some ⟨g, 0, none⟩)) (hv : tmps.getD 7 undef = v)
    (h : HeadV) (hb : Blk w g 25 (headC h)) : (results fn tmps).run Tryd.prog w = .ok (.tuple #[.agg (headC h), v]) w := by
  rw [results_cell_tmp hf, ht, hv]
  have hl := load_head w g _ _ _ _ _ _ _ _ _ hb
  simp only [asAddr, Sem.run_pure, hl, Result.andThen]
  rfl
theorem blk9 {w : World} {g : Nat} {h : HeadV} (hb : Blk w g 25 (headC h)) (a0 a1 a2 a3 a4 a5 a6 a7 a8 : Value) :
    Blk (((((((((w.setCell ⟨g, 0, none⟩ a0).setCell ⟨g, 1, none⟩ a1).setCell ⟨g, 2, none⟩ a2).setCell ⟨g, 3, none⟩ a3).setCell ⟨g, 4, none⟩ a4).setCell ⟨g, 5, none⟩ a5).setCell ⟨g, 6, none⟩ a6).setCell ⟨g, 7, none⟩ a7).setCell ⟨g, 8, none⟩ a8) g 25 #[a0, a1, a2, a3, a4, a5, a6, a7, a8] :=
  ((((((((hb.set 0 a0 (by show 0 < 9; decide)).set 1 a1 (by show 1 < 9; decide)).set 2 a2 (by show 2 < 9; decide)).set 3 a3 (by show 3 < 9; decide)).set 4 a4 (by show 4 < 9; decide)).set 5 a5 (by show 5 < 9; decide)).set 6 a6 (by show 6 < 9; decide)).set 7 a7 (by show 7 < 9; decide)).set 8 a8 (by show 8 < 9; decide)
theorem below9 {w w' : World} {g : Nat} (hk : Below w.heap.size w w') (hg : w.heap.size ≤ g) (a0 a1 a2 a3 a4 a5 a6 a7 a8 : Value) :
    Below w.heap.size w (((((((((w'.setCell ⟨g, 0, none⟩ a0).setCell ⟨g, 1, none⟩ a1).setCell ⟨g, 2, none⟩ a2).setCell ⟨g, 3, none⟩ a3).setCell ⟨g, 4, none⟩ a4).setCell ⟨g, 5, none⟩ a5).setCell ⟨g, 6, none⟩ a6).setCell ⟨g, 7, none⟩ a7).setCell ⟨g, 8, none⟩ a8) :=
  (((((((((hk.setCell (p := ⟨g, 0, none⟩) hg a0).setCell (p := ⟨g, 1, none⟩) hg a1).setCell (p := ⟨g, 2, none⟩) hg a2).setCell (p := ⟨g, 3, none⟩) hg a3).setCell (p := ⟨g, 4, none⟩) hg a4).setCell (p := ⟨g, 5, none⟩) hg a5).setCell (p := ⟨g, 6, none⟩) hg a6).setCell (p := ⟨g, 7, none⟩) hg a7).setCell (p := ⟨g, 8, none⟩) hg a8)
/-- what a step keeps: the head's block told anew, the answer's as it was -/
def Mid (w wi : World) (h : HeadV) : Prop := Below w.heap.size w wi ∧ Blk wi w.heap.size 25 (headC h) ∧ Blk wi (w.heap.size + 1) 25 (headC zeroH)
theorem Mid.below {w wi wj : World} {h : HeadV} (hm : Mid w wi h) (hb : Below wi.heap.size wi wj) : Mid w wj h :=
  ⟨hm.1.trans (hb.mono hm.1.size), hm.2.1.below hb hm.2.1.lt, hm.2.2.below hb hm.2.2.lt⟩
theorem Mid.put {w wi wj : World} {h h' : HeadV} (hm : Mid w wi h) (hk : Kept (oneB w.heap.size) wi wj) (hb : Blk wj w.heap.size 25 (headC h')) : Mid w wj h' :=
  ⟨hm.1.trans (hk.below hm.1.size (fun k hk => by have : k = w.heap.size := hk; omega)), hb, hm.2.2.keptS hk (fun e => by have : w.heap.size + 1 = w.heap.size := e; omega)⟩
set_option maxHeartbeats 4000000 in
theorem apply_any (s : Option Addr) (F : Glob) (h : HeadV) (p : Option Addr) (n c : Nat) (rs : RecL) (w : World) (hs : StP w s F) (hn : n ≤ 4611686018427387904) (hr : RecsAt w p n rs)
    (hl : ∀ i, i < 6 → (valueD F rs (keyT i)).length ≤ 140737488351232) :
    Calls Tryd.prog 10 #[.pointer s, .agg (headC h), .slice p n c] w fun e w' => e = .returned (headA (applyD F rs h)) ∧ Below w.heap.size w w' := by
  obtain ⟨V, hV⟩ : ∃ V : Nat → List UInt8, V = fun i => valueD F rs (keyT i) := ⟨_, rfl⟩
  have CV : Hid (∀ (i : Nat) (wi : World), Below w.heap.size w wi → Calls Tryd.prog 12 #[.pointer s, .string (str (keyT i)), .slice p n c] wi fun e w' => e = .returned (.string (str (V i))) ∧ Below wi.heap.size wi w') :=
    Lib.hid (fun i wi hb => by rw [hV]; exact value_any s F (keyT i) p n c rs wi (hs.below hb) hn (hr.below hb))
  have HL : Hid (∀ i, i < 6 → (V i).length ≤ 140737488351232) := Lib.hid (by rw [hV]; exact hl)
  rw [show applyD F rs h = applyV V h by rw [hV]; rfl]
  clear hl hs hr hn hV
  obtain ⟨U, hU⟩ : ∃ U : HeadV × Int, applyV V h = U := ⟨_, rfl⟩
  rw [hU]
  have HU := Lib.hid hU
  clear hU
  simp only [headC]
  obtain ⟨o0, ho0⟩ : ∃ o, numD1 false (V 0) h.uid = o := ⟨_, rfl⟩
  cases o0 with
  | none =>
    have N0 := Lib.hid ho0
    clear ho0
    go_enter Tryd.func10, Tryd.ntmps10
    go_wp2_with fail
    have HM0 : Hid (Mid w ((w.alloc (.cells (headC h) 25)).alloc (.cells (headC zeroH) 25)) h) := by
      have b1 := Blk.new (w.alloc (.cells (headC h) 25)) 25 (headC zeroH)
      rw [World.size_alloc] at b1
      exact Lib.hid ⟨((Below.refl _ w).alloc (Nat.le_refl _) _).alloc (by simp) _, (Blk.new w 25 (headC h)).alloc _, b1⟩
    refine (CV.out 4 _ HM0.out.1).mono ?_
    rintro e w1 ⟨rfl, hb⟩
    have HM1 := Lib.hid (HM0.out.below hb)
    clear hb HM0
    go_wp2_with fail
    refine (changeText_any (V 4) _ 0 _ (headC h) h.name w1 HM1.out.2.1 (by show 0 < 9; decide) rfl).mono ?_
    rintro e w2 ⟨rfl, hb, hk⟩
    have HM2 := Lib.hid (HM1.out.put (h' := { h with name := textD1 (V 4) h.name }) hk hb)
    clear hb hk HM1
    go_wp2_with fail
    refine (CV.out 5 _ HM2.out.1).mono ?_
    rintro e w3 ⟨rfl, hb⟩
    have HM3 := Lib.hid (HM2.out.below hb)
    clear hb HM2
    go_wp2_with fail
    refine (changeText_any (V 5) _ 1 _ _ h.link w3 HM3.out.2.1 (by show 1 < 9; decide) rfl).mono ?_
    rintro e w4 ⟨rfl, hb, hk⟩
    have HM4 := Lib.hid (HM3.out.put (h' := { h with name := textD1 (V 4) h.name, link := textD1 (V 5) h.link }) hk hb)
    clear hb hk HM3
    go_wp2_with fail
    refine (CV.out 0 _ HM4.out.1).mono ?_
    rintro e w5 ⟨rfl, hb⟩
    have HM5 := Lib.hid (HM4.out.below hb)
    clear hb HM4
    go_wp2_with fail
    refine (changeNumber_any false (V 0) (HL.out 0 (by omega)) _ 4 _ _ h.uid w5 HM5.out.2.1 (by show 4 < 9; decide) rfl).mono ?_
    rw [N0.out]
    rintro e w6 ⟨rfl, hb, hk⟩
    have HM6 := Lib.hid (HM5.out.put (h' := { h with name := textD1 (V 4) h.name, link := textD1 (V 5) h.link, uid := 0 }) hk hb)
    clear hb hk HM5
    have b2 := HM6.out.2.2
    have r0 := b2.cell 0
    have r1 := b2.cell 1
    have r2 := b2.cell 2
    have r3 := b2.cell 3
    have r4 := b2.cell 4
    have r5 := b2.cell 5
    have r6 := b2.cell 6
    have r7 := b2.cell 7
    have r8 := b2.cell 8
    have f0 := b2.frozen 0
    have f1 := b2.frozen 1
    have f2 := b2.frozen 2
    have f3 := b2.frozen 3
    have f4 := b2.frozen 4
    have f5 := b2.frozen 5
    have f6 := b2.frozen 6
    have f7 := b2.frozen 7
    have f8 := b2.frozen 8
    simp only [headC, zeroH, List.getElem?_toArray, List.getElem?_cons_zero, List.getElem?_cons_succ] at r0 r1 r2 r3 r4 r5 r6 r7 r8
    clear b2
    have E : Hid (U = (zeroH, 4)) := Lib.hid (by rw [← HU.out]; unfold applyV; simp only [N0.out])
    go_wp2
    refine bodyPost_ret (ret_headB rfl _ _ (w.heap.size + 1) _ rfl rfl zeroH (blk9 HM6.out.2.2 _ _ _ _ _ _ _ _ _)) rfl ?_
    exact ⟨by rw [E.out]; rfl, below9 HM6.out.1 (by omega) _ _ _ _ _ _ _ _ _⟩
  | some u =>
    have N0 := Lib.hid ho0
    clear ho0
    obtain ⟨o1, ho1⟩ : ∃ o, numD1 false (V 1) h.gid = o := ⟨_, rfl⟩
    cases o1 with
    | none =>
      have N1 := Lib.hid ho1
      clear ho1
      go_enter Tryd.func10, Tryd.ntmps10
      go_wp2_with fail
      have HM0 : Hid (Mid w ((w.alloc (.cells (headC h) 25)).alloc (.cells (headC zeroH) 25)) h) := by
        have b1 := Blk.new (w.alloc (.cells (headC h) 25)) 25 (headC zeroH)
        rw [World.size_alloc] at b1
        exact Lib.hid ⟨((Below.refl _ w).alloc (Nat.le_refl _) _).alloc (by simp) _, (Blk.new w 25 (headC h)).alloc _, b1⟩
      refine (CV.out 4 _ HM0.out.1).mono ?_
      rintro e w1 ⟨rfl, hb⟩
      have HM1 := Lib.hid (HM0.out.below hb)
      clear hb HM0
      go_wp2_with fail
      refine (changeText_any (V 4) _ 0 _ (headC h) h.name w1 HM1.out.2.1 (by show 0 < 9; decide) rfl).mono ?_
      rintro e w2 ⟨rfl, hb, hk⟩
      have HM2 := Lib.hid (HM1.out.put (h' := { h with name := textD1 (V 4) h.name }) hk hb)
      clear hb hk HM1
      go_wp2_with fail
      refine (CV.out 5 _ HM2.out.1).mono ?_
      rintro e w3 ⟨rfl, hb⟩
      have HM3 := Lib.hid (HM2.out.below hb)
      clear hb HM2
      go_wp2_with fail
      refine (changeText_any (V 5) _ 1 _ _ h.link w3 HM3.out.2.1 (by show 1 < 9; decide) rfl).mono ?_
      rintro e w4 ⟨rfl, hb, hk⟩
      have HM4 := Lib.hid (HM3.out.put (h' := { h with name := textD1 (V 4) h.name, link := textD1 (V 5) h.link }) hk hb)
      clear hb hk HM3
      go_wp2_with fail
      refine (CV.out 0 _ HM4.out.1).mono ?_
      rintro e w5 ⟨rfl, hb⟩
      have HM5 := Lib.hid (HM4.out.below hb)
      clear hb HM4
      go_wp2_with fail
      refine (changeNumber_any false (V 0) (HL.out 0 (by omega)) _ 4 _ _ h.uid w5 HM5.out.2.1 (by show 4 < 9; decide) rfl).mono ?_
      rw [N0.out]
      rintro e w6 ⟨rfl, hb, hk⟩
      have HM6 := Lib.hid (HM5.out.put (h' := { h with name := textD1 (V 4) h.name, link := textD1 (V 5) h.link, uid := u }) hk hb)
      clear hb hk HM5
      go_wp2_with fail
      refine (CV.out 1 _ HM6.out.1).mono ?_
      rintro e w7 ⟨rfl, hb⟩
      have HM7 := Lib.hid (HM6.out.below hb)
      clear hb HM6
      go_wp2_with fail
      refine (changeNumber_any false (V 1) (HL.out 1 (by omega)) _ 5 _ _ h.gid w7 HM7.out.2.1 (by show 5 < 9; decide) rfl).mono ?_
      rw [N1.out]
      rintro e w8 ⟨rfl, hb, hk⟩
      have HM8 := Lib.hid (HM7.out.put (h' := { h with name := textD1 (V 4) h.name, link := textD1 (V 5) h.link, uid := u, gid := 0 }) hk hb)
      clear hb hk HM7
      have b2 := HM8.out.2.2
      have r0 := b2.cell 0
      have r1 := b2.cell 1
      have r2 := b2.cell 2
      have r3 := b2.cell 3
      have r4 := b2.cell 4
      have r5 := b2.cell 5
      have r6 := b2.cell 6
      have r7 := b2.cell 7
      have r8 := b2.cell 8
      have f0 := b2.frozen 0
      have f1 := b2.frozen 1
      have f2 := b2.frozen 2
      have f3 := b2.frozen 3
      have f4 := b2.frozen 4
      have f5 := b2.frozen 5
      have f6 := b2.frozen 6
      have f7 := b2.frozen 7
      have f8 := b2.frozen 8
      simp only [headC, zeroH, List.getElem?_toArray, List.getElem?_cons_zero, List.getElem?_cons_succ] at r0 r1 r2 r3 r4 r5 r6 r7 r8
      clear b2
      have E : Hid (U = (zeroH, 4)) := Lib.hid (by rw [← HU.out]; unfold applyV; simp only [N0.out, N1.out])
      go_wp2
      refine bodyPost_ret (ret_headB rfl _ _ (w.heap.size + 1) _ rfl rfl zeroH (blk9 HM8.out.2.2 _ _ _ _ _ _ _ _ _)) rfl ?_
      exact ⟨by rw [E.out]; rfl, below9 HM8.out.1 (by omega) _ _ _ _ _ _ _ _ _⟩
    | some g =>
      have N1 := Lib.hid ho1
      clear ho1
      obtain ⟨o2, ho2⟩ : ∃ o, numD1 true (V 2) h.time = o := ⟨_, rfl⟩
      cases o2 with
      | none =>
        have N2 := Lib.hid ho2
        clear ho2
        go_enter Tryd.func10, Tryd.ntmps10
        go_wp2_with fail
        have HM0 : Hid (Mid w ((w.alloc (.cells (headC h) 25)).alloc (.cells (headC zeroH) 25)) h) := by
          have b1 := Blk.new (w.alloc (.cells (headC h) 25)) 25 (headC zeroH)
          rw [World.size_alloc] at b1
          exact Lib.hid ⟨((Below.refl _ w).alloc (Nat.le_refl _) _).alloc (by simp) _, (Blk.new w 25 (headC h)).alloc _, b1⟩
        refine (CV.out 4 _ HM0.out.1).mono ?_
        rintro e w1 ⟨rfl, hb⟩
        have HM1 := Lib.hid (HM0.out.below hb)
        clear hb HM0
        go_wp2_with fail
        refine (changeText_any (V 4) _ 0 _ (headC h) h.name w1 HM1.out.2.1 (by show 0 < 9; decide) rfl).mono ?_
        rintro e w2 ⟨rfl, hb, hk⟩
        have HM2 := Lib.hid (HM1.out.put (h' := { h with name := textD1 (V 4) h.name }) hk hb)
        clear hb hk HM1
        go_wp2_with fail
        refine (CV.out 5 _ HM2.out.1).mono ?_
        rintro e w3 ⟨rfl, hb⟩
        have HM3 := Lib.hid (HM2.out.below hb)
        clear hb HM2
        go_wp2_with fail
        refine (changeText_any (V 5) _ 1 _ _ h.link w3 HM3.out.2.1 (by show 1 < 9; decide) rfl).mono ?_
        rintro e w4 ⟨rfl, hb, hk⟩
        have HM4 := Lib.hid (HM3.out.put (h' := { h with name := textD1 (V 4) h.name, link := textD1 (V 5) h.link }) hk hb)
        clear hb hk HM3
        go_wp2_with fail
        refine (CV.out 0 _ HM4.out.1).mono ?_
        rintro e w5 ⟨rfl, hb⟩
        have HM5 := Lib.hid (HM4.out.below hb)
        clear hb HM4
        go_wp2_with fail
        refine (changeNumber_any false (V 0) (HL.out 0 (by omega)) _ 4 _ _ h.uid w5 HM5.out.2.1 (by show 4 < 9; decide) rfl).mono ?_
        rw [N0.out]
        rintro e w6 ⟨rfl, hb, hk⟩
        have HM6 := Lib.hid (HM5.out.put (h' := { h with name := textD1 (V 4) h.name, link := textD1 (V 5) h.link, uid := u }) hk hb)
        clear hb hk HM5
        go_wp2_with fail
        refine (CV.out 1 _ HM6.out.1).mono ?_
        rintro e w7 ⟨rfl, hb⟩
        have HM7 := Lib.hid (HM6.out.below hb)
        clear hb HM6
        go_wp2_with fail
        refine (changeNumber_any false (V 1) (HL.out 1 (by omega)) _ 5 _ _ h.gid w7 HM7.out.2.1 (by show 5 < 9; decide) rfl).mono ?_
        rw [N1.out]
        rintro e w8 ⟨rfl, hb, hk⟩
        have HM8 := Lib.hid (HM7.out.put (h' := { h with name := textD1 (V 4) h.name, link := textD1 (V 5) h.link, uid := u, gid := g }) hk hb)
        clear hb hk HM7
        go_wp2_with fail
        refine (CV.out 2 _ HM8.out.1).mono ?_
        rintro e w9 ⟨rfl, hb⟩
        have HM9 := Lib.hid (HM8.out.below hb)
        clear hb HM8
        go_wp2_with fail
        refine (changeNumber_any true (V 2) (HL.out 2 (by omega)) _ 6 _ _ h.time w9 HM9.out.2.1 (by show 6 < 9; decide) rfl).mono ?_
        rw [N2.out]
        rintro e w10 ⟨rfl, hb, hk⟩
        have HM10 := Lib.hid (HM9.out.put (h' := { h with name := textD1 (V 4) h.name, link := textD1 (V 5) h.link, uid := u, gid := g, time := 0 }) hk hb)
        clear hb hk HM9
        have b2 := HM10.out.2.2
        have r0 := b2.cell 0
        have r1 := b2.cell 1
        have r2 := b2.cell 2
        have r3 := b2.cell 3
        have r4 := b2.cell 4
        have r5 := b2.cell 5
        have r6 := b2.cell 6
        have r7 := b2.cell 7
        have r8 := b2.cell 8
        have f0 := b2.frozen 0
        have f1 := b2.frozen 1
        have f2 := b2.frozen 2
        have f3 := b2.frozen 3
        have f4 := b2.frozen 4
        have f5 := b2.frozen 5
        have f6 := b2.frozen 6
        have f7 := b2.frozen 7
        have f8 := b2.frozen 8
        simp only [headC, zeroH, List.getElem?_toArray, List.getElem?_cons_zero, List.getElem?_cons_succ] at r0 r1 r2 r3 r4 r5 r6 r7 r8
        clear b2
        have E : Hid (U = (zeroH, 4)) := Lib.hid (by rw [← HU.out]; unfold applyV; simp only [N0.out, N1.out, N2.out])
        go_wp2
        refine bodyPost_ret (ret_headB rfl _ _ (w.heap.size + 1) _ rfl rfl zeroH (blk9 HM10.out.2.2 _ _ _ _ _ _ _ _ _)) rfl ?_
        exact ⟨by rw [E.out]; rfl, below9 HM10.out.1 (by omega) _ _ _ _ _ _ _ _ _⟩
      | some t =>
        have N2 := Lib.hid ho2
        clear ho2
        obtain ⟨o3, ho3⟩ : ∃ o, numD1 false (V 3) h.size = o := ⟨_, rfl⟩
        cases o3 with
        | none =>
          have N3 := Lib.hid ho3
          clear ho3
          go_enter Tryd.func10, Tryd.ntmps10
          go_wp2_with fail
          have HM0 : Hid (Mid w ((w.alloc (.cells (headC h) 25)).alloc (.cells (headC zeroH) 25)) h) := by
            have b1 := Blk.new (w.alloc (.cells (headC h) 25)) 25 (headC zeroH)
            rw [World.size_alloc] at b1
            exact Lib.hid ⟨((Below.refl _ w).alloc (Nat.le_refl _) _).alloc (by simp) _, (Blk.new w 25 (headC h)).alloc _, b1⟩
          refine (CV.out 4 _ HM0.out.1).mono ?_
          rintro e w1 ⟨rfl, hb⟩
          have HM1 := Lib.hid (HM0.out.below hb)
          clear hb HM0
          go_wp2_with fail
          refine (changeText_any (V 4) _ 0 _ (headC h) h.name w1 HM1.out.2.1 (by show 0 < 9; decide) rfl).mono ?_
          rintro e w2 ⟨rfl, hb, hk⟩
          have HM2 := Lib.hid (HM1.out.put (h' := { h with name := textD1 (V 4) h.name }) hk hb)
          clear hb hk HM1
          go_wp2_with fail
          refine (CV.out 5 _ HM2.out.1).mono ?_
          rintro e w3 ⟨rfl, hb⟩
          have HM3 := Lib.hid (HM2.out.below hb)
          clear hb HM2
          go_wp2_with fail
          refine (changeText_any (V 5) _ 1 _ _ h.link w3 HM3.out.2.1 (by show 1 < 9; decide) rfl).mono ?_
          rintro e w4 ⟨rfl, hb, hk⟩
          have HM4 := Lib.hid (HM3.out.put (h' := { h with name := textD1 (V 4) h.name, link := textD1 (V 5) h.link }) hk hb)
          clear hb hk HM3
          go_wp2_with fail
          refine (CV.out 0 _ HM4.out.1).mono ?_
          rintro e w5 ⟨rfl, hb⟩
          have HM5 := Lib.hid (HM4.out.below hb)
          clear hb HM4
          go_wp2_with fail
          refine (changeNumber_any false (V 0) (HL.out 0 (by omega)) _ 4 _ _ h.uid w5 HM5.out.2.1 (by show 4 < 9; decide) rfl).mono ?_
          rw [N0.out]
          rintro e w6 ⟨rfl, hb, hk⟩
          have HM6 := Lib.hid (HM5.out.put (h' := { h with name := textD1 (V 4) h.name, link := textD1 (V 5) h.link, uid := u }) hk hb)
          clear hb hk HM5
          go_wp2_with fail
          refine (CV.out 1 _ HM6.out.1).mono ?_
          rintro e w7 ⟨rfl, hb⟩
          have HM7 := Lib.hid (HM6.out.below hb)
          clear hb HM6
          go_wp2_with fail
          refine (changeNumber_any false (V 1) (HL.out 1 (by omega)) _ 5 _ _ h.gid w7 HM7.out.2.1 (by show 5 < 9; decide) rfl).mono ?_
          rw [N1.out]
          rintro e w8 ⟨rfl, hb, hk⟩
          have HM8 := Lib.hid (HM7.out.put (h' := { h with name := textD1 (V 4) h.name, link := textD1 (V 5) h.link, uid := u, gid := g }) hk hb)
          clear hb hk HM7
          go_wp2_with fail
          refine (CV.out 2 _ HM8.out.1).mono ?_
          rintro e w9 ⟨rfl, hb⟩
          have HM9 := Lib.hid (HM8.out.below hb)
          clear hb HM8
          go_wp2_with fail
          refine (changeNumber_any true (V 2) (HL.out 2 (by omega)) _ 6 _ _ h.time w9 HM9.out.2.1 (by show 6 < 9; decide) rfl).mono ?_
          rw [N2.out]
          rintro e w10 ⟨rfl, hb, hk⟩
          have HM10 := Lib.hid (HM9.out.put (h' := { h with name := textD1 (V 4) h.name, link := textD1 (V 5) h.link, uid := u, gid := g, time := t }) hk hb)
          clear hb hk HM9
          go_wp2_with fail
          refine (CV.out 3 _ HM10.out.1).mono ?_
          rintro e w11 ⟨rfl, hb⟩
          have HM11 := Lib.hid (HM10.out.below hb)
          clear hb HM10
          go_wp2_with fail
          refine (changeNumber_any false (V 3) (HL.out 3 (by omega)) _ 7 _ _ h.size w11 HM11.out.2.1 (by show 7 < 9; decide) rfl).mono ?_
          rw [N3.out]
          rintro e w12 ⟨rfl, hb, hk⟩
          have HM12 := Lib.hid (HM11.out.put (h' := { h with name := textD1 (V 4) h.name, link := textD1 (V 5) h.link, uid := u, gid := g, time := t, size := 0 }) hk hb)
          clear hb hk HM11
          have b2 := HM12.out.2.2
          have r0 := b2.cell 0
          have r1 := b2.cell 1
          have r2 := b2.cell 2
          have r3 := b2.cell 3
          have r4 := b2.cell 4
          have r5 := b2.cell 5
          have r6 := b2.cell 6
          have r7 := b2.cell 7
          have r8 := b2.cell 8
          have f0 := b2.frozen 0
          have f1 := b2.frozen 1
          have f2 := b2.frozen 2
          have f3 := b2.frozen 3
          have f4 := b2.frozen 4
          have f5 := b2.frozen 5
          have f6 := b2.frozen 6
          have f7 := b2.frozen 7
          have f8 := b2.frozen 8
          simp only [headC, zeroH, List.getElem?_toArray, List.getElem?_cons_zero, List.getElem?_cons_succ] at r0 r1 r2 r3 r4 r5 r6 r7 r8
          clear b2
          have E : Hid (U = (zeroH, 4)) := Lib.hid (by rw [← HU.out]; unfold applyV; simp only [N0.out, N1.out, N2.out, N3.out])
          go_wp2
          refine bodyPost_ret (ret_headB rfl _ _ (w.heap.size + 1) _ rfl rfl zeroH (blk9 HM12.out.2.2 _ _ _ _ _ _ _ _ _)) rfl ?_
          exact ⟨by rw [E.out]; rfl, below9 HM12.out.1 (by omega) _ _ _ _ _ _ _ _ _⟩
        | some z =>
          have N3 := Lib.hid ho3
          clear ho3
          go_enter Tryd.func10, Tryd.ntmps10
          go_wp2_with fail
          have HM0 : Hid (Mid w ((w.alloc (.cells (headC h) 25)).alloc (.cells (headC zeroH) 25)) h) := by
            have b1 := Blk.new (w.alloc (.cells (headC h) 25)) 25 (headC zeroH)
            rw [World.size_alloc] at b1
            exact Lib.hid ⟨((Below.refl _ w).alloc (Nat.le_refl _) _).alloc (by simp) _, (Blk.new w 25 (headC h)).alloc _, b1⟩
          refine (CV.out 4 _ HM0.out.1).mono ?_
          rintro e w1 ⟨rfl, hb⟩
          have HM1 := Lib.hid (HM0.out.below hb)
          clear hb HM0
          go_wp2_with fail
          refine (changeText_any (V 4) _ 0 _ (headC h) h.name w1 HM1.out.2.1 (by show 0 < 9; decide) rfl).mono ?_
          rintro e w2 ⟨rfl, hb, hk⟩
          have HM2 := Lib.hid (HM1.out.put (h' := { h with name := textD1 (V 4) h.name }) hk hb)
          clear hb hk HM1
          go_wp2_with fail
          refine (CV.out 5 _ HM2.out.1).mono ?_
          rintro e w3 ⟨rfl, hb⟩
          have HM3 := Lib.hid (HM2.out.below hb)
          clear hb HM2
          go_wp2_with fail
          refine (changeText_any (V 5) _ 1 _ _ h.link w3 HM3.out.2.1 (by show 1 < 9; decide) rfl).mono ?_
          rintro e w4 ⟨rfl, hb, hk⟩
          have HM4 := Lib.hid (HM3.out.put (h' := { h with name := textD1 (V 4) h.name, link := textD1 (V 5) h.link }) hk hb)
          clear hb hk HM3
          go_wp2_with fail
          refine (CV.out 0 _ HM4.out.1).mono ?_
          rintro e w5 ⟨rfl, hb⟩
          have HM5 := Lib.hid (HM4.out.below hb)
          clear hb HM4
          go_wp2_with fail
          refine (changeNumber_any false (V 0) (HL.out 0 (by omega)) _ 4 _ _ h.uid w5 HM5.out.2.1 (by show 4 < 9; decide) rfl).mono ?_
          rw [N0.out]
          rintro e w6 ⟨rfl, hb, hk⟩
          have HM6 := Lib.hid (HM5.out.put (h' := { h with name := textD1 (V 4) h.name, link := textD1 (V 5) h.link, uid := u }) hk hb)
          clear hb hk HM5
          go_wp2_with fail
          refine (CV.out 1 _ HM6.out.1).mono ?_
          rintro e w7 ⟨rfl, hb⟩
          have HM7 := Lib.hid (HM6.out.below hb)
          clear hb HM6
          go_wp2_with fail
          refine (changeNumber_any false (V 1) (HL.out 1 (by omega)) _ 5 _ _ h.gid w7 HM7.out.2.1 (by show 5 < 9; decide) rfl).mono ?_
          rw [N1.out]
          rintro e w8 ⟨rfl, hb, hk⟩
          have HM8 := Lib.hid (HM7.out.put (h' := { h with name := textD1 (V 4) h.name, link := textD1 (V 5) h.link, uid := u, gid := g }) hk hb)
          clear hb hk HM7
          go_wp2_with fail
          refine (CV.out 2 _ HM8.out.1).mono ?_
          rintro e w9 ⟨rfl, hb⟩
          have HM9 := Lib.hid (HM8.out.below hb)
          clear hb HM8
          go_wp2_with fail
          refine (changeNumber_any true (V 2) (HL.out 2 (by omega)) _ 6 _ _ h.time w9 HM9.out.2.1 (by show 6 < 9; decide) rfl).mono ?_
          rw [N2.out]
          rintro e w10 ⟨rfl, hb, hk⟩
          have HM10 := Lib.hid (HM9.out.put (h' := { h with name := textD1 (V 4) h.name, link := textD1 (V 5) h.link, uid := u, gid := g, time := t }) hk hb)
          clear hb hk HM9
          go_wp2_with fail
          refine (CV.out 3 _ HM10.out.1).mono ?_
          rintro e w11 ⟨rfl, hb⟩
          have HM11 := Lib.hid (HM10.out.below hb)
          clear hb HM10
          go_wp2_with fail
          refine (changeNumber_any false (V 3) (HL.out 3 (by omega)) _ 7 _ _ h.size w11 HM11.out.2.1 (by show 7 < 9; decide) rfl).mono ?_
          rw [N3.out]
          rintro e w12 ⟨rfl, hb, hk⟩
          have HM12 := Lib.hid (HM11.out.put (h' := { h with name := textD1 (V 4) h.name, link := textD1 (V 5) h.link, uid := u, gid := g, time := t, size := z }) hk hb)
          clear hb hk HM11
          have b2 := HM12.out.2.2
          have r0 := b2.cell 0
          have r1 := b2.cell 1
          have r2 := b2.cell 2
          have r3 := b2.cell 3
          have r4 := b2.cell 4
          have r5 := b2.cell 5
          have r6 := b2.cell 6
          have r7 := b2.cell 7
          have r8 := b2.cell 8
          have f0 := b2.frozen 0
          have f1 := b2.frozen 1
          have f2 := b2.frozen 2
          have f3 := b2.frozen 3
          have f4 := b2.frozen 4
          have f5 := b2.frozen 5
          have f6 := b2.frozen 6
          have f7 := b2.frozen 7
          have f8 := b2.frozen 8
          simp only [headC, zeroH, List.getElem?_toArray, List.getElem?_cons_zero, List.getElem?_cons_succ] at r0 r1 r2 r3 r4 r5 r6 r7 r8
          clear b2
          have b1 := HM12.out.2.1
          have c0 := b1.cell 0
          have c1 := b1.cell 1
          have c2 := b1.cell 2
          have c3 := b1.cell 3
          have c4 := b1.cell 4
          have c5 := b1.cell 5
          have c6 := b1.cell 6
          have c7 := b1.cell 7
          have c8 := b1.cell 8
          simp only [headC, List.getElem?_toArray, List.getElem?_cons_zero, List.getElem?_cons_succ] at c0 c1 c2 c3 c4 c5 c6 c7 c8
          clear b1
          have E : Hid (U = ({ h with name := textD1 (V 4) h.name, link := textD1 (V 5) h.link, uid := u, gid := g, time := t, size := z }, 0)) := Lib.hid (by rw [← HU.out]; unfold applyV; simp only [N0.out, N1.out, N2.out, N3.out])
          go_wp2
          refine bodyPost_ret (ret_headB rfl _ _ (w.heap.size + 1) _ rfl rfl { h with name := textD1 (V 4) h.name, link := textD1 (V 5) h.link, uid := u, gid := g, time := t, size := z } (blk9 HM12.out.2.2 _ _ _ _ _ _ _ _ _)) rfl ?_
          exact ⟨by rw [E.out]; rfl, below9 HM12.out.1 (by omega) _ _ _ _ _ _ _ _ _⟩
end Go.Proofs.YtfmhdkemigpjjaaDoor.Attr
