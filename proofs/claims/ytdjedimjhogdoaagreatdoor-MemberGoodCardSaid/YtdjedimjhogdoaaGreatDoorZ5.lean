import Derived.Test.YtdjedimjhogdoaaGreatDoorZ4
import Derived.Test.YtdjedimjhogdoaaGreatDoorZ1
import Derived.Laws.ResultCell
import Derived.Deep.DeepCutAuto
import Derived.Test.YtdjedimjhogdoaaGreatDoorZ2
import Derived.Lib.SlBytesConst
import Derived.Maps.RangeRun
import Derived.Maps.OwnOps
import Derived.Maps.RangeWalk
import Derived.Maps.Range
import Derived.RegionTactic
import Derived.Laws.MakeOwn
import Derived.Laws.CopyOwn
import Derived.Test.YtdjedimjhogdoaaGreatDoorRows
import Derived.Shelf.Bytes.SlCut
import Derived.Lib.IndexLaws
import Derived.Deep.RegionHeldLaw
import Derived.Test.YtdjedimjhogdoaaGreatDoorZ3
import Derived.Shelf.Bytes.SlTrim
section
namespace Go.Proofs.YtdjedimjhogdoaaGreatDoor.Attr
open Go.ChangeShapes Go.WideShapes Go.ChangeAt Go.RowKit Go.Shelf Go.Proofs.YtdjedimjhogdoaaGreatDoor.Base Go.Proofs.YtdjedimjhogdoaaGreatDoor.Byt Go.Proofs.YtdjedimjhogdoaaGreatDoor.Txt Go.Proofs.YtdjedimjhogdoaaGreatDoor.Rec Go.Proofs.YtdjedimjhogdoaaGreatDoor.Bk Go.Proofs.YtdjedimjhogdoaaGreatDoor.Hp Go.Proofs.YtdjedimjhogdoaaGreatDoor.Head Go.Lib
set_option linter.unusedVariables false
set_option maxRecDepth 100000

theorem ret_headB {fn : Func} (hf : fn.results = #[.cell 6 57, .tmp 7]) (tmps : Array Value) (w : World) (g : Nat) (v : Value) (ht : tmps.getD 6 undef = .pointer (some ⟨g, 0, none⟩)) (hv : tmps.getD 7 undef = v)
    (h : HeadV) (hb : Blk w g 57 (headC h)) : (results fn tmps).run Tryz.prog w = .ok (.tuple #[.agg (headC h), v]) w := by
  rw [results_cell_tmp hf, ht, hv]
  have hl := load_head w g _ _ _ _ _ _ _ _ _ hb
  simp only [asAddr, Sem.run_pure, hl, Result.andThen]
  rfl
theorem blk9 {w : World} {g : Nat} {h : HeadV} (hb : Blk w g 57 (headC h)) (a0 a1 a2 a3 a4 a5 a6 a7 a8 : Value) :
    Blk (((((((((w.setCell ⟨g, 0, none⟩ a0).setCell ⟨g, 1, none⟩ a1).setCell ⟨g, 2, none⟩ a2).setCell ⟨g, 3, none⟩ a3).setCell ⟨g, 4, none⟩ a4).setCell ⟨g, 5, none⟩ a5).setCell ⟨g, 6, none⟩ a6).setCell ⟨g, 7, none⟩ a7).setCell ⟨g, 8, none⟩ a8) g 57 #[a0, a1, a2, a3, a4, a5, a6, a7, a8] :=
  ((((((((hb.set 0 a0 (by show 0 < 9; decide)).set 1 a1 (by show 1 < 9; decide)).set 2 a2 (by show 2 < 9; decide)).set 3 a3 (by show 3 < 9; decide)).set 4 a4 (by show 4 < 9; decide)).set 5 a5 (by show 5 < 9; decide)).set 6 a6 (by show 6 < 9; decide)).set 7 a7 (by show 7 < 9; decide)).set 8 a8 (by show 8 < 9; decide)
theorem below9 {w w' : World} {g : Nat} (hk : Below w.heap.size w w') (hg : w.heap.size ≤ g) (a0 a1 a2 a3 a4 a5 a6 a7 a8 : Value) :
    Below w.heap.size w (((((((((w'.setCell ⟨g, 0, none⟩ a0).setCell ⟨g, 1, none⟩ a1).setCell ⟨g, 2, none⟩ a2).setCell ⟨g, 3, none⟩ a3).setCell ⟨g, 4, none⟩ a4).setCell ⟨g, 5, none⟩ a5).setCell ⟨g, 6, none⟩ a6).setCell ⟨g, 7, none⟩ a7).setCell ⟨g, 8, none⟩ a8) :=
  (((((((((hk.setCell (p := ⟨g, 0, none⟩) hg a0).setCell (p := ⟨g, 1, none⟩) hg a1).setCell (p := ⟨g, 2, none⟩) hg a2).setCell (p := ⟨g, 3, none⟩) hg a3).setCell (p := ⟨g, 4, none⟩) hg a4).setCell (p := ⟨g, 5, none⟩) hg a5).setCell (p := ⟨g, 6, none⟩) hg a6).setCell (p := ⟨g, 7, none⟩) hg a7).setCell (p := ⟨g, 8, none⟩) hg a8)
/-- what a step keeps: the head's block told anew, the answer's as it was -/
def Mid (w wi : World) (h : HeadV) : Prop := Below w.heap.size w wi ∧ Blk wi w.heap.size 57 (headC h) ∧ Blk wi (w.heap.size + 1) 57 (headC zeroH)
theorem Mid.below {w wi wj : World} {h : HeadV} (hm : Mid w wi h) (hb : Below wi.heap.size wi wj) : Mid w wj h :=
  ⟨hm.1.trans (hb.mono hm.1.size), hm.2.1.below hb hm.2.1.lt, hm.2.2.below hb hm.2.2.lt⟩
theorem Mid.put {w wi wj : World} {h h' : HeadV} (hm : Mid w wi h) (hk : Kept (oneB w.heap.size) wi wj) (hb : Blk wj w.heap.size 57 (headC h')) : Mid w wj h' :=
  ⟨hm.1.trans (hk.below hm.1.size (fun k hk => by have : k = w.heap.size := hk; omega)), hb, hm.2.2.keptS hk (fun e => by have : w.heap.size + 1 = w.heap.size := e; omega)⟩
set_option maxHeartbeats 4000000 in
theorem apply_any (s : Option Addr) (F : Glob) (h : HeadV) (p : Option Addr) (n c : Nat) (rs : RecL) (w : World) (hs : StP w s F) (hn : n ≤ 4611686018427387904) (hr : RecsAt w p n rs)
    (hl : ∀ i, i < 6 → (valueD F rs (keyT i)).length ≤ 140737488351232) :
    Calls Tryz.prog 83 #[.pointer s, .agg (headC h), .slice p n c] w fun e w' => e = .returned (headA (applyD F rs h)) ∧ Below w.heap.size w w' := by
  obtain ⟨V, hV⟩ : ∃ V : Nat → List UInt8, V = fun i => valueD F rs (keyT i) := ⟨_, rfl⟩
  have CV : Hid (∀ (i : Nat) (wi : World), Below w.heap.size w wi → Calls Tryz.prog 105 #[.pointer s, .string (str (keyT i)), .slice p n c] wi fun e w' => e = .returned (.string (str (V i))) ∧ Below wi.heap.size wi w') :=
    Lib.hid (fun i wi hb => by rw [hV]; exact value_any s F (keyT i) p n c rs wi (hs.below hb) hn (hr.below hb))
  have HL : Hid (∀ i, i < 6 → (V i).length ≤ 140737488351232) := Lib.hid (by rw [hV]; exact hl)
  rw [show applyD F rs h = applyV V h by rw [hV]; rfl]
  clear hl hs hr hn hV
  obtain ⟨U, hU⟩ : ∃ U : HeadV × Int, applyV V h = U := ⟨_, rfl⟩
  rw [hU]
  have HU := Lib.hid hU
  clear hU
  simp only [headC]
  obtain ⟨o0, ho0⟩ : ∃ o, numD1 false (V 0) h.uid = o := ⟨_, rfl⟩
  cases o0 with
  | none =>
    have N0 := Lib.hid ho0
    clear ho0
    go_enter Tryz.func83, Tryz.ntmps83
    go_wp2_with fail
    have HM0 : Hid (Mid w ((w.alloc (.cells (headC h) 57)).alloc (.cells (headC zeroH) 57)) h) := by
      have b1 := Blk.new (w.alloc (.cells (headC h) 57)) 57 (headC zeroH)
      rw [World.size_alloc] at b1
      exact Lib.hid ⟨((Below.refl _ w).alloc (Nat.le_refl _) _).alloc (by simp) _, (Blk.new w 57 (headC h)).alloc _, b1⟩
    refine (CV.out 4 _ HM0.out.1).mono ?_
    rintro e w1 ⟨rfl, hb⟩
    have HM1 := Lib.hid (HM0.out.below hb)
    clear hb HM0
    go_wp2_with fail
    refine (changeText_any (V 4) _ 0 _ (headC h) h.name w1 HM1.out.2.1 (by show 0 < 9; decide) rfl).mono ?_
    rintro e w2 ⟨rfl, hb, hk⟩
    have HM2 := Lib.hid (HM1.out.put (h' := { h with name := textD1 (V 4) h.name }) hk hb)
    clear hb hk HM1
    go_wp2_with fail
    refine (CV.out 5 _ HM2.out.1).mono ?_
    rintro e w3 ⟨rfl, hb⟩
    have HM3 := Lib.hid (HM2.out.below hb)
    clear hb HM2
    go_wp2_with fail
    refine (changeText_any (V 5) _ 1 _ _ h.link w3 HM3.out.2.1 (by show 1 < 9; decide) rfl).mono ?_
    rintro e w4 ⟨rfl, hb, hk⟩
    have HM4 := Lib.hid (HM3.out.put (h' := { h with name := textD1 (V 4) h.name, link := textD1 (V 5) h.link }) hk hb)
    clear hb hk HM3
    go_wp2_with fail
    refine (CV.out 0 _ HM4.out.1).mono ?_
    rintro e w5 ⟨rfl, hb⟩
    have HM5 := Lib.hid (HM4.out.below hb)
    clear hb HM4
    go_wp2_with fail
    refine (changeNumber_any false (V 0) (HL.out 0 (by omega)) _ 4 _ _ h.uid w5 HM5.out.2.1 (by show 4 < 9; decide) rfl).mono ?_
    rw [N0.out]
    rintro e w6 ⟨rfl, hb, hk⟩
    have HM6 := Lib.hid (HM5.out.put (h' := { h with name := textD1 (V 4) h.name, link := textD1 (V 5) h.link, uid := 0 }) hk hb)
    clear hb hk HM5
    have b2 := HM6.out.2.2
    have r0 := b2.cell 0
    have r1 := b2.cell 1
    have r2 := b2.cell 2
    have r3 := b2.cell 3
    have r4 := b2.cell 4
    have r5 := b2.cell 5
    have r6 := b2.cell 6
    have r7 := b2.cell 7
    have r8 := b2.cell 8
    have f0 := b2.frozen 0
    have f1 := b2.frozen 1
    have f2 := b2.frozen 2
    have f3 := b2.frozen 3
    have f4 := b2.frozen 4
    have f5 := b2.frozen 5
    have f6 := b2.frozen 6
    have f7 := b2.frozen 7
    have f8 := b2.frozen 8
    simp only [headC, zeroH, List.getElem?_toArray, List.getElem?_cons_zero, List.getElem?_cons_succ] at r0 r1 r2 r3 r4 r5 r6 r7 r8
    clear b2
    have E : Hid (U = (zeroH, 4)) := Lib.hid (by rw [← HU.out]; unfold applyV; simp only [N0.out])
    go_wp2
    refine bodyPost_ret (ret_headB rfl _ _ (w.heap.size + 1) _ rfl rfl zeroH (blk9 HM6.out.2.2 _ _ _ _ _ _ _ _ _)) rfl ?_
    exact ⟨by rw [E.out]; rfl, below9 HM6.out.1 (by omega) _ _ _ _ _ _ _ _ _⟩
  | some u =>
    have N0 := Lib.hid ho0
    clear ho0
    obtain ⟨o1, ho1⟩ : ∃ o, numD1 false (V 1) h.gid = o := ⟨_, rfl⟩
    cases o1 with
    | none =>
      have N1 := Lib.hid ho1
      clear ho1
      go_enter Tryz.func83, Tryz.ntmps83
      go_wp2_with fail
      have HM0 : Hid (Mid w ((w.alloc (.cells (headC h) 57)).alloc (.cells (headC zeroH) 57)) h) := by
        have b1 := Blk.new (w.alloc (.cells (headC h) 57)) 57 (headC zeroH)
        rw [World.size_alloc] at b1
        exact Lib.hid ⟨((Below.refl _ w).alloc (Nat.le_refl _) _).alloc (by simp) _, (Blk.new w 57 (headC h)).alloc _, b1⟩
      refine (CV.out 4 _ HM0.out.1).mono ?_
      rintro e w1 ⟨rfl, hb⟩
      have HM1 := Lib.hid (HM0.out.below hb)
      clear hb HM0
      go_wp2_with fail
      refine (changeText_any (V 4) _ 0 _ (headC h) h.name w1 HM1.out.2.1 (by show 0 < 9; decide) rfl).mono ?_
      rintro e w2 ⟨rfl, hb, hk⟩
      have HM2 := Lib.hid (HM1.out.put (h' := { h with name := textD1 (V 4) h.name }) hk hb)
      clear hb hk HM1
      go_wp2_with fail
      refine (CV.out 5 _ HM2.out.1).mono ?_
      rintro e w3 ⟨rfl, hb⟩
      have HM3 := Lib.hid (HM2.out.below hb)
      clear hb HM2
      go_wp2_with fail
      refine (changeText_any (V 5) _ 1 _ _ h.link w3 HM3.out.2.1 (by show 1 < 9; decide) rfl).mono ?_
      rintro e w4 ⟨rfl, hb, hk⟩
      have HM4 := Lib.hid (HM3.out.put (h' := { h with name := textD1 (V 4) h.name, link := textD1 (V 5) h.link }) hk hb)
      clear hb hk HM3
      go_wp2_with fail
      refine (CV.out 0 _ HM4.out.1).mono ?_
      rintro e w5 ⟨rfl, hb⟩
      have HM5 := Lib.hid (HM4.out.below hb)
      clear hb HM4
      go_wp2_with fail
      refine (changeNumber_any false (V 0) (HL.out 0 (by omega)) _ 4 _ _ h.uid w5 HM5.out.2.1 (by show 4 < 9; decide) rfl).mono ?_
      rw [N0.out]
      rintro e w6 ⟨rfl, hb, hk⟩
      have HM6 := Lib.hid (HM5.out.put (h' := { h with name := textD1 (V 4) h.name, link := textD1 (V 5) h.link, uid := u }) hk hb)
      clear hb hk HM5
      go_wp2_with fail
      refine (CV.out 1 _ HM6.out.1).mono ?_
      rintro e w7 ⟨rfl, hb⟩
      have HM7 := Lib.hid (HM6.out.below hb)
      clear hb HM6
      go_wp2_with fail
      refine (changeNumber_any false (V 1) (HL.out 1 (by omega)) _ 5 _ _ h.gid w7 HM7.out.2.1 (by show 5 < 9; decide) rfl).mono ?_
      rw [N1.out]
      rintro e w8 ⟨rfl, hb, hk⟩
      have HM8 := Lib.hid (HM7.out.put (h' := { h with name := textD1 (V 4) h.name, link := textD1 (V 5) h.link, uid := u, gid := 0 }) hk hb)
      clear hb hk HM7
      have b2 := HM8.out.2.2
      have r0 := b2.cell 0
      have r1 := b2.cell 1
      have r2 := b2.cell 2
      have r3 := b2.cell 3
      have r4 := b2.cell 4
      have r5 := b2.cell 5
      have r6 := b2.cell 6
      have r7 := b2.cell 7
      have r8 := b2.cell 8
      have f0 := b2.frozen 0
      have f1 := b2.frozen 1
      have f2 := b2.frozen 2
      have f3 := b2.frozen 3
      have f4 := b2.frozen 4
      have f5 := b2.frozen 5
      have f6 := b2.frozen 6
      have f7 := b2.frozen 7
      have f8 := b2.frozen 8
      simp only [headC, zeroH, List.getElem?_toArray, List.getElem?_cons_zero, List.getElem?_cons_succ] at r0 r1 r2 r3 r4 r5 r6 r7 r8
      clear b2
      have E : Hid (U = (zeroH, 4)) := Lib.hid (by rw [← HU.out]; unfold applyV; simp only [N0.out, N1.out])
      go_wp2
      refine bodyPost_ret (ret_headB rfl _ _ (w.heap.size + 1) _ rfl rfl zeroH (blk9 HM8.out.2.2 _ _ _ _ _ _ _ _ _)) rfl ?_
      exact ⟨by rw [E.out]; rfl, below9 HM8.out.1 (by omega) _ _ _ _ _ _ _ _ _⟩
    | some g =>
      have N1 := Lib.hid ho1
      clear ho1
      obtain ⟨o2, ho2⟩ : ∃ o, numD1 true (V 2) h.time = o := ⟨_, rfl⟩
      cases o2 with
      | none =>
        have N2 := Lib.hid ho2
        clear ho2
        go_enter Tryz.func83, Tryz.ntmps83
        go_wp2_with fail
        have HM0 : Hid (Mid w ((w.alloc (.cells (headC h) 57)).alloc (.cells (headC zeroH) 57)) h) := by
          have b1 := Blk.new (w.alloc (.cells (headC h) 57)) 57 (headC zeroH)
          rw [World.size_alloc] at b1
          exact Lib.hid ⟨((Below.refl _ w).alloc (Nat.le_refl _) _).alloc (by simp) _, (Blk.new w 57 (headC h)).alloc _, b1⟩
        refine (CV.out 4 _ HM0.out.1).mono ?_
        rintro e w1 ⟨rfl, hb⟩
        have HM1 := Lib.hid (HM0.out.below hb)
        clear hb HM0
        go_wp2_with fail
        refine (changeText_any (V 4) _ 0 _ (headC h) h.name w1 HM1.out.2.1 (by show 0 < 9; decide) rfl).mono ?_
        rintro e w2 ⟨rfl, hb, hk⟩
        have HM2 := Lib.hid (HM1.out.put (h' := { h with name := textD1 (V 4) h.name }) hk hb)
        clear hb hk HM1
        go_wp2_with fail
        refine (CV.out 5 _ HM2.out.1).mono ?_
        rintro e w3 ⟨rfl, hb⟩
        have HM3 := Lib.hid (HM2.out.below hb)
        clear hb HM2
        go_wp2_with fail
        refine (changeText_any (V 5) _ 1 _ _ h.link w3 HM3.out.2.1 (by show 1 < 9; decide) rfl).mono ?_
        rintro e w4 ⟨rfl, hb, hk⟩
        have HM4 := Lib.hid (HM3.out.put (h' := { h with name := textD1 (V 4) h.name, link := textD1 (V 5) h.link }) hk hb)
        clear hb hk HM3
        go_wp2_with fail
        refine (CV.out 0 _ HM4.out.1).mono ?_
        rintro e w5 ⟨rfl, hb⟩
        have HM5 := Lib.hid (HM4.out.below hb)
        clear hb HM4
        go_wp2_with fail
        refine (changeNumber_any false (V 0) (HL.out 0 (by omega)) _ 4 _ _ h.uid w5 HM5.out.2.1 (by show 4 < 9; decide) rfl).mono ?_
        rw [N0.out]
        rintro e w6 ⟨rfl, hb, hk⟩
        have HM6 := Lib.hid (HM5.out.put (h' := { h with name := textD1 (V 4) h.name, link := textD1 (V 5) h.link, uid := u }) hk hb)
        clear hb hk HM5
        go_wp2_with fail
        refine (CV.out 1 _ HM6.out.1).mono ?_
        rintro e w7 ⟨rfl, hb⟩
        have HM7 := Lib.hid (HM6.out.below hb)
        clear hb HM6
        go_wp2_with fail
        refine (changeNumber_any false (V 1) (HL.out 1 (by omega)) _ 5 _ _ h.gid w7 HM7.out.2.1 (by show 5 < 9; decide) rfl).mono ?_
        rw [N1.out]
        rintro e w8 ⟨rfl, hb, hk⟩
        have HM8 := Lib.hid (HM7.out.put (h' := { h with name := textD1 (V 4) h.name, link := textD1 (V 5) h.link, uid := u, gid := g }) hk hb)
        clear hb hk HM7
        go_wp2_with fail
        refine (CV.out 2 _ HM8.out.1).mono ?_
        rintro e w9 ⟨rfl, hb⟩
        have HM9 := Lib.hid (HM8.out.below hb)
        clear hb HM8
        go_wp2_with fail
        refine (changeNumber_any true (V 2) (HL.out 2 (by omega)) _ 6 _ _ h.time w9 HM9.out.2.1 (by show 6 < 9; decide) rfl).mono ?_
        rw [N2.out]
        rintro e w10 ⟨rfl, hb, hk⟩
        have HM10 := Lib.hid (HM9.out.put (h' := { h with name := textD1 (V 4) h.name, link := textD1 (V 5) h.link, uid := u, gid := g, time := 0 }) hk hb)
        clear hb hk HM9
        have b2 := HM10.out.2.2
        have r0 := b2.cell 0
        have r1 := b2.cell 1
        have r2 := b2.cell 2
        have r3 := b2.cell 3
        have r4 := b2.cell 4
        have r5 := b2.cell 5
        have r6 := b2.cell 6
        have r7 := b2.cell 7
        have r8 := b2.cell 8
        have f0 := b2.frozen 0
        have f1 := b2.frozen 1
        have f2 := b2.frozen 2
        have f3 := b2.frozen 3
        have f4 := b2.frozen 4
        have f5 := b2.frozen 5
        have f6 := b2.frozen 6
        have f7 := b2.frozen 7
        have f8 := b2.frozen 8
        simp only [headC, zeroH, List.getElem?_toArray, List.getElem?_cons_zero, List.getElem?_cons_succ] at r0 r1 r2 r3 r4 r5 r6 r7 r8
        clear b2
        have E : Hid (U = (zeroH, 4)) := Lib.hid (by rw [← HU.out]; unfold applyV; simp only [N0.out, N1.out, N2.out])
        go_wp2
        refine bodyPost_ret (ret_headB rfl _ _ (w.heap.size + 1) _ rfl rfl zeroH (blk9 HM10.out.2.2 _ _ _ _ _ _ _ _ _)) rfl ?_
        exact ⟨by rw [E.out]; rfl, below9 HM10.out.1 (by omega) _ _ _ _ _ _ _ _ _⟩
      | some t =>
        have N2 := Lib.hid ho2
        clear ho2
        obtain ⟨o3, ho3⟩ : ∃ o, numD1 false (V 3) h.size = o := ⟨_, rfl⟩
        cases o3 with
        | none =>
          have N3 := Lib.hid ho3
          clear ho3
          go_enter Tryz.func83, Tryz.ntmps83
          go_wp2_with fail
          have HM0 : Hid (Mid w ((w.alloc (.cells (headC h) 57)).alloc (.cells (headC zeroH) 57)) h) := by
            have b1 := Blk.new (w.alloc (.cells (headC h) 57)) 57 (headC zeroH)
            rw [World.size_alloc] at b1
            exact Lib.hid ⟨((Below.refl _ w).alloc (Nat.le_refl _) _).alloc (by simp) _, (Blk.new w 57 (headC h)).alloc _, b1⟩
          refine (CV.out 4 _ HM0.out.1).mono ?_
          rintro e w1 ⟨rfl, hb⟩
          have HM1 := Lib.hid (HM0.out.below hb)
          clear hb HM0
          go_wp2_with fail
          refine (changeText_any (V 4) _ 0 _ (headC h) h.name w1 HM1.out.2.1 (by show 0 < 9; decide) rfl).mono ?_
          rintro e w2 ⟨rfl, hb, hk⟩
          have HM2 := Lib.hid (HM1.out.put (h' := { h with name := textD1 (V 4) h.name }) hk hb)
          clear hb hk HM1
          go_wp2_with fail
          refine (CV.out 5 _ HM2.out.1).mono ?_
          rintro e w3 ⟨rfl, hb⟩
          have HM3 := Lib.hid (HM2.out.below hb)
          clear hb HM2
          go_wp2_with fail
          refine (changeText_any (V 5) _ 1 _ _ h.link w3 HM3.out.2.1 (by show 1 < 9; decide) rfl).mono ?_
          rintro e w4 ⟨rfl, hb, hk⟩
          have HM4 := Lib.hid (HM3.out.put (h' := { h with name := textD1 (V 4) h.name, link := textD1 (V 5) h.link }) hk hb)
          clear hb hk HM3
          go_wp2_with fail
          refine (CV.out 0 _ HM4.out.1).mono ?_
          rintro e w5 ⟨rfl, hb⟩
          have HM5 := Lib.hid (HM4.out.below hb)
          clear hb HM4
          go_wp2_with fail
          refine (changeNumber_any false (V 0) (HL.out 0 (by omega)) _ 4 _ _ h.uid w5 HM5.out.2.1 (by show 4 < 9; decide) rfl).mono ?_
          rw [N0.out]
          rintro e w6 ⟨rfl, hb, hk⟩
          have HM6 := Lib.hid (HM5.out.put (h' := { h with name := textD1 (V 4) h.name, link := textD1 (V 5) h.link, uid := u }) hk hb)
          clear hb hk HM5
          go_wp2_with fail
          refine (CV.out 1 _ HM6.out.1).mono ?_
          rintro e w7 ⟨rfl, hb⟩
          have HM7 := Lib.hid (HM6.out.below hb)
          clear hb HM6
          go_wp2_with fail
          refine (changeNumber_any false (V 1) (HL.out 1 (by omega)) _ 5 _ _ h.gid w7 HM7.out.2.1 (by show 5 < 9; decide) rfl).mono ?_
          rw [N1.out]
          rintro e w8 ⟨rfl, hb, hk⟩
          have HM8 := Lib.hid (HM7.out.put (h' := { h with name := textD1 (V 4) h.name, link := textD1 (V 5) h.link, uid := u, gid := g }) hk hb)
          clear hb hk HM7
          go_wp2_with fail
          refine (CV.out 2 _ HM8.out.1).mono ?_
          rintro e w9 ⟨rfl, hb⟩
          have HM9 := Lib.hid (HM8.out.below hb)
          clear hb HM8
          go_wp2_with fail
          refine (changeNumber_any true (V 2) (HL.out 2 (by omega)) _ 6 _ _ h.time w9 HM9.out.2.1 (by show 6 < 9; decide) rfl).mono ?_
          rw [N2.out]
          rintro e w10 ⟨rfl, hb, hk⟩
          have HM10 := Lib.hid (HM9.out.put (h' := { h with name := textD1 (V 4) h.name, link := textD1 (V 5) h.link, uid := u, gid := g, time := t }) hk hb)
          clear hb hk HM9
          go_wp2_with fail
          refine (CV.out 3 _ HM10.out.1).mono ?_
          rintro e w11 ⟨rfl, hb⟩
          have HM11 := Lib.hid (HM10.out.below hb)
          clear hb HM10
          go_wp2_with fail
          refine (changeNumber_any false (V 3) (HL.out 3 (by omega)) _ 7 _ _ h.size w11 HM11.out.2.1 (by show 7 < 9; decide) rfl).mono ?_
          rw [N3.out]
          rintro e w12 ⟨rfl, hb, hk⟩
          have HM12 := Lib.hid (HM11.out.put (h' := { h with name := textD1 (V 4) h.name, link := textD1 (V 5) h.link, uid := u, gid := g, time := t, size := 0 }) hk hb)
          clear hb hk HM11
          have b2 := HM12.out.2.2
          have r0 := b2.cell 0
          have r1 := b2.cell 1
          have r2 := b2.cell 2
          have r3 := b2.cell 3
          have r4 := b2.cell 4
          have r5 := b2.cell 5
          have r6 := b2.cell 6
          have r7 := b2.cell 7
          have r8 := b2.cell 8
          have f0 := b2.frozen 0
          have f1 := b2.frozen 1
          have f2 := b2.frozen 2
          have f3 := b2.frozen 3
          have f4 := b2.frozen 4
          have f5 := b2.frozen 5
          have f6 := b2.frozen 6
          have f7 := b2.frozen 7
          have f8 := b2.frozen 8
          simp only [headC, zeroH, List.getElem?_toArray, List.getElem?_cons_zero, List.getElem?_cons_succ] at r0 r1 r2 r3 r4 r5 r6 r7 r8
          clear b2
          have E : Hid (U = (zeroH, 4)) := Lib.hid (by rw [← HU.out]; unfold applyV; simp only [N0.out, N1.out, N2.out, N3.out])
          go_wp2
          refine bodyPost_ret (ret_headB rfl _ _ (w.heap.size + 1) _ rfl rfl zeroH (blk9 HM12.out.2.2 _ _ _ _ _ _ _ _ _)) rfl ?_
          exact ⟨by rw [E.out]; rfl, below9 HM12.out.1 (by omega) _ _ _ _ _ _ _ _ _⟩
        | some z =>
          have N3 := Lib.hid ho3
          clear ho3
          go_enter Tryz.func83, Tryz.ntmps83
          go_wp2_with fail
          have HM0 : Hid (Mid w ((w.alloc (.cells (headC h) 57)).alloc (.cells (headC zeroH) 57)) h) := by
            have b1 := Blk.new (w.alloc (.cells (headC h) 57)) 57 (headC zeroH)
            rw [World.size_alloc] at b1
            exact Lib.hid ⟨((Below.refl _ w).alloc (Nat.le_refl _) _).alloc (by simp) _, (Blk.new w 57 (headC h)).alloc _, b1⟩
          refine (CV.out 4 _ HM0.out.1).mono ?_
          rintro e w1 ⟨rfl, hb⟩
          have HM1 := Lib.hid (HM0.out.below hb)
          clear hb HM0
          go_wp2_with fail
          refine (changeText_any (V 4) _ 0 _ (headC h) h.name w1 HM1.out.2.1 (by show 0 < 9; decide) rfl).mono ?_
          rintro e w2 ⟨rfl, hb, hk⟩
          have HM2 := Lib.hid (HM1.out.put (h' := { h with name := textD1 (V 4) h.name }) hk hb)
          clear hb hk HM1
          go_wp2_with fail
          refine (CV.out 5 _ HM2.out.1).mono ?_
          rintro e w3 ⟨rfl, hb⟩
          have HM3 := Lib.hid (HM2.out.below hb)
          clear hb HM2
          go_wp2_with fail
          refine (changeText_any (V 5) _ 1 _ _ h.link w3 HM3.out.2.1 (by show 1 < 9; decide) rfl).mono ?_
          rintro e w4 ⟨rfl, hb, hk⟩
          have HM4 := Lib.hid (HM3.out.put (h' := { h with name := textD1 (V 4) h.name, link := textD1 (V 5) h.link }) hk hb)
          clear hb hk HM3
          go_wp2_with fail
          refine (CV.out 0 _ HM4.out.1).mono ?_
          rintro e w5 ⟨rfl, hb⟩
          have HM5 := Lib.hid (HM4.out.below hb)
          clear hb HM4
          go_wp2_with fail
          refine (changeNumber_any false (V 0) (HL.out 0 (by omega)) _ 4 _ _ h.uid w5 HM5.out.2.1 (by show 4 < 9; decide) rfl).mono ?_
          rw [N0.out]
          rintro e w6 ⟨rfl, hb, hk⟩
          have HM6 := Lib.hid (HM5.out.put (h' := { h with name := textD1 (V 4) h.name, link := textD1 (V 5) h.link, uid := u }) hk hb)
          clear hb hk HM5
          go_wp2_with fail
          refine (CV.out 1 _ HM6.out.1).mono ?_
          rintro e w7 ⟨rfl, hb⟩
          have HM7 := Lib.hid (HM6.out.below hb)
          clear hb HM6
          go_wp2_with fail
          refine (changeNumber_any false (V 1) (HL.out 1 (by omega)) _ 5 _ _ h.gid w7 HM7.out.2.1 (by show 5 < 9; decide) rfl).mono ?_
          rw [N1.out]
          rintro e w8 ⟨rfl, hb, hk⟩
          have HM8 := Lib.hid (HM7.out.put (h' := { h with name := textD1 (V 4) h.name, link := textD1 (V 5) h.link, uid := u, gid := g }) hk hb)
          clear hb hk HM7
          go_wp2_with fail
          refine (CV.out 2 _ HM8.out.1).mono ?_
          rintro e w9 ⟨rfl, hb⟩
          have HM9 := Lib.hid (HM8.out.below hb)
          clear hb HM8
          go_wp2_with fail
          refine (changeNumber_any true (V 2) (HL.out 2 (by omega)) _ 6 _ _ h.time w9 HM9.out.2.1 (by show 6 < 9; decide) rfl).mono ?_
          rw [N2.out]
          rintro e w10 ⟨rfl, hb, hk⟩
          have HM10 := Lib.hid (HM9.out.put (h' := { h with name := textD1 (V 4) h.name, link := textD1 (V 5) h.link, uid := u, gid := g, time := t }) hk hb)
          clear hb hk HM9
          go_wp2_with fail
          refine (CV.out 3 _ HM10.out.1).mono ?_
          rintro e w11 ⟨rfl, hb⟩
          have HM11 := Lib.hid (HM10.out.below hb)
          clear hb HM10
          go_wp2_with fail
          refine (changeNumber_any false (V 3) (HL.out 3 (by omega)) _ 7 _ _ h.size w11 HM11.out.2.1 (by show 7 < 9; decide) rfl).mono ?_
          rw [N3.out]
          rintro e w12 ⟨rfl, hb, hk⟩
          have HM12 := Lib.hid (HM11.out.put (h' := { h with name := textD1 (V 4) h.name, link := textD1 (V 5) h.link, uid := u, gid := g, time := t, size := z }) hk hb)
          clear hb hk HM11
          have b2 := HM12.out.2.2
          have r0 := b2.cell 0
          have r1 := b2.cell 1
          have r2 := b2.cell 2
          have r3 := b2.cell 3
          have r4 := b2.cell 4
          have r5 := b2.cell 5
          have r6 := b2.cell 6
          have r7 := b2.cell 7
          have r8 := b2.cell 8
          have f0 := b2.frozen 0
          have f1 := b2.frozen 1
          have f2 := b2.frozen 2
          have f3 := b2.frozen 3
          have f4 := b2.frozen 4
          have f5 := b2.frozen 5
          have f6 := b2.frozen 6
          have f7 := b2.frozen 7
          have f8 := b2.frozen 8
          simp only [headC, zeroH, List.getElem?_toArray, List.getElem?_cons_zero, List.getElem?_cons_succ] at r0 r1 r2 r3 r4 r5 r6 r7 r8
          clear b2
          have b1 := HM12.out.2.1
          have c0 := b1.cell 0
          have c1 := b1.cell 1
          have c2 := b1.cell 2
          have c3 := b1.cell 3
          have c4 := b1.cell 4
          have c5 := b1.cell 5
          have c6 := b1.cell 6
          have c7 := b1.cell 7
          have c8 := b1.cell 8
          simp only [headC, List.getElem?_toArray, List.getElem?_cons_zero, List.getElem?_cons_succ] at c0 c1 c2 c3 c4 c5 c6 c7 c8
          clear b1
          have E : Hid (U = ({ h with name := textD1 (V 4) h.name, link := textD1 (V 5) h.link, uid := u, gid := g, time := t, size := z }, 0)) := Lib.hid (by rw [← HU.out]; unfold applyV; simp only [N0.out, N1.out, N2.out, N3.out])
          go_wp2
          refine bodyPost_ret (ret_headB rfl _ _ (w.heap.size + 1) _ rfl rfl { h with name := textD1 (V 4) h.name, link := textD1 (V 5) h.link, uid := u, gid := g, time := t, size := z } (blk9 HM12.out.2.2 _ _ _ _ _ _ _ _ _)) rfl ?_
          exact ⟨by rw [E.out]; rfl, below9 HM12.out.1 (by omega) _ _ _ _ _ _ _ _ _⟩
end Go.Proofs.YtdjedimjhogdoaaGreatDoor.Attr
end
section
namespace Go.Proofs.YtdjedimjhogdoaaGreatDoor.Mem
open Go.ChangeShapes Go.WideShapes Go.ChangeAt Go.RowKit Go.Proofs.YtdjedimjhogdoaaGreatDoor.Base Go.Proofs.YtdjedimjhogdoaaGreatDoor.Byt Go.Proofs.YtdjedimjhogdoaaGreatDoor.Txt Go.Proofs.YtdjedimjhogdoaaGreatDoor.Bk Go.Proofs.YtdjedimjhogdoaaGreatDoor.Mk Go.Proofs.YtdjedimjhogdoaaGreatDoor.Block Go.Proofs.YtdjedimjhogdoaaGreatDoor.Hp Go.Proofs.YtdjedimjhogdoaaGreatDoor.Head Go.Proofs.YtdjedimjhogdoaaGreatDoor.Attr Go.Proofs.YtdjedimjhogdoaaGreatDoor.Rec Go.Lib
set_option linter.unusedVariables false
set_option maxRecDepth 100000

theorem extZero (w : World) : (zeroValue 133).run Tryz.prog w = .ok (.agg #[.string ⟨#[]⟩, .slice none 0 0]) w := Tryz.zeroValue133 w
section
variable {w0 w w' : World} {K : RK} {a : Nat} {s : RS} {mb : Option Nat} {v : Value} {xs : List MP} {q : Option Addr} {n c : Nat}
theorem Rd.c0 (h : Rd w0 w K a s mb v xs q n c) : w.cell? ⟨K.r, 0, none⟩ = some (.pointer (some ⟨K.g, 0, none⟩)) := h.blk.cell 0
theorem Rd.c1 (h : Rd w0 w K a s mb v xs q n c) : w.cell? ⟨K.r, 1, none⟩ = some (.pointer (some ⟨K.gs, 0, none⟩)) := h.blk.cell 1
theorem Rd.c2 (h : Rd w0 w K a s mb v xs q n c) : w.cell? ⟨K.r, 2, none⟩ = some (.map (some K.mw)) := h.blk.cell 2
theorem Rd.c3 (h : Rd w0 w K a s mb v xs q n c) : w.cell? ⟨K.r, 3, none⟩ = some v := h.blk.cell 3
theorem look_ext (h : MapK u8K w K.mw (waitF s q n c)) (k : UInt8) (m : Int) (hk : (k.toNat : Int) = m) :
    (Instr.lookup 68 (.map (some K.mw)) (.int .u8 m) true).run Tryz.prog w = .ok (.tuple #[(waitF s q n c k).getD (.agg #[.string ⟨#[]⟩, .slice none 0 0]), .bool (waitF s q n c k).isSome]) w := by
  subst hk
  exact h.look_ok Tryz.underlying68 Tryz.underlying5 extZero k
theorem Rd.look76 (h : Rd w0 w K a s mb v xs q n c) :
    (Instr.lookup 68 (.map (some K.mw)) (.int .u8 76) true).run Tryz.prog w = .ok (.tuple #[.agg #[.string (str (s.name.getD [])), .slice none 0 0], .bool s.name.isSome]) w := by
  rw [look_ext h.map 76 76 rfl]
  have e : waitF s q n c 76 = s.name.map (fun t => .agg #[.string (str t), .slice none 0 0]) := by unfold waitF; rw [if_neg (by decide), if_pos rfl]
  rw [e]
  cases s.name <;> rfl
theorem Rd.look75 (h : Rd w0 w K a s mb v xs q n c) :
    (Instr.lookup 68 (.map (some K.mw)) (.int .u8 75) true).run Tryz.prog w = .ok (.tuple #[.agg #[.string (str (s.link.getD [])), .slice none 0 0], .bool s.link.isSome]) w := by
  rw [look_ext h.map 75 75 rfl]
  have e : waitF s q n c 75 = s.link.map (fun t => .agg #[.string (str t), .slice none 0 0]) := by unfold waitF; rw [if_neg (by decide), if_neg (by decide), if_pos rfl]
  rw [e]
  cases s.link <;> rfl
theorem ret_head1 {fn : Func} (hf : fn.results = #[.cell 4 57]) (tmps : Array Value) (w : World) (g : Nat) (ht : tmps.getD 4 undef = .pointer (some ⟨g, 0, none⟩))
    (h : HeadV) (hb : Blk w g 57 (headC h)) : (results fn tmps).run Tryz.prog w = .ok (.agg (headC h)) w := by
  have hl := load_head w g _ _ _ _ _ _ _ _ _ hb
  have ht' : tmps[4]?.getD undef = .pointer (some ⟨g, 0, none⟩) := by simpa using ht
  simp only [results, hf]
  simp [ht', asAddr]
  rw [hl]
  rfl
set_option maxHeartbeats 2000000 in
theorem renamed_any (h : HeadV) (hr : Rd w0 w K a s mb v xs q n c) :
    Calls Tryz.prog 84 #[.pointer (some ⟨K.r, 0, none⟩), .agg (headC h)] w fun e w' => e = .returned (.agg (headC (renD h s))) ∧ Below w.heap.size w w' := by
  have HM0 : Hid (Mid w ((w.alloc (.cells (headC h) 57)).alloc (.cells (headC zeroH) 57)) h) := by
    have b1 := Blk.new (w.alloc (.cells (headC h) 57)) 57 (headC zeroH)
    rw [World.size_alloc] at b1
    exact Lib.hid ⟨((Below.refl _ w).alloc (Nat.le_refl _) _).alloc (by simp) _, (Blk.new w 57 (headC h)).alloc _, b1⟩
  have HR := Lib.hid hr
  clear hr
  obtain ⟨sn, hsn⟩ : ∃ x, s.name = x := ⟨_, rfl⟩
  obtain ⟨sl, hsl⟩ : ∃ x, s.link = x := ⟨_, rfl⟩
  have HSN := Lib.hid hsn
  have HSL := Lib.hid hsl
  clear hsn hsl
  obtain ⟨U, hU⟩ : ∃ U, renD h s = U := ⟨_, rfl⟩
  rw [hU]
  have HU : Hid (U = { h with name := sn.getD h.name, link := sl.getD h.link }) := Lib.hid (by rw [← hU, ← HSN.out, ← HSL.out]; rfl)
  clear hU
  obtain ⟨W1, hW1⟩ : ∃ W1, (w.alloc (.cells (headC h) 57)).alloc (.cells (headC zeroH) 57) = W1 := ⟨_, rfl⟩
  rw [hW1] at HM0
  go_enter Tryz.func84, Tryz.ntmps84
  go_upto_region 1 with fail
  rw [show (w.alloc (.cells (headC h) 57)).alloc (.cells #[.string ⟨#[]⟩, .string ⟨#[]⟩, .int .u8 0, .int .i64 0, .int .i64 0, .int .i64 0, .int .i64 0, .int .i64 0, .bool false] 57) = W1 from hW1]
  have R1 := Lib.hid (HR.out.below HM0.out.1)
  have x2 := R1.out.c2
  have l76 := R1.out.look76
  rw [HSN.out] at l76
  clear hW1
  cases sn with
  | none =>
    simp only [Option.getD_none, Option.isSome_none] at l76
    cases sl with
    | none =>
      go_upto_region 2 with fail
      clear x2 l76
      obtain ⟨W2, hW2⟩ : ∃ W2, W1.alloc (.cells #[.string (str []), .slice none 0 0] 133) = W2 := ⟨_, rfl⟩
      have e0 : W2.cell? ⟨W1.heap.size, 0, none⟩ = some (.string (str [])) := by rw [← hW2]; exact (Blk.new W1 133 _).cell 0
      have HM2 : Hid (Mid w W2 h) := Lib.hid (by rw [← hW2]; exact HM0.out.below ((Below.refl _ W1).alloc (Nat.le_refl _) _))
      have R2 := Lib.hid (HR.out.below HM2.out.1)
      rw [show W1.alloc (.cells #[.string (str []), .slice none 0 0] 133) = W2 from hW2]
      clear hW2
      go_upto_region 4 with fail
      clear e0
      obtain ⟨W3, hW3⟩ : ∃ W3, W2 = W3 := ⟨_, rfl⟩
      have HM3 := HM2
      rw [hW3] at HM3 ⊢
      clear hW3
      have R3 := Lib.hid (HR.out.below HM3.out.1)
      have x2 := R3.out.c2
      have l75 := R3.out.look75
      rw [HSL.out] at l75
      simp only [Option.getD_none, Option.isSome_none] at l75
      go_upto_region 5 with fail
      clear x2 l75
      obtain ⟨W4, hW4⟩ : ∃ W4, W3.alloc (.cells #[.string (str []), .slice none 0 0] 133) = W4 := ⟨_, rfl⟩
      have e0 : W4.cell? ⟨W3.heap.size, 0, none⟩ = some (.string (str [])) := by rw [← hW4]; exact (Blk.new W3 133 _).cell 0
      have HM4 : Hid (Mid w W4 h) := Lib.hid (by rw [← hW4]; exact HM3.out.below ((Below.refl _ W3).alloc (Nat.le_refl _) _))
      rw [show W3.alloc (.cells #[.string (str []), .slice none 0 0] 133) = W4 from hW4]
      clear hW4
      go_upto_region 7 with fail
      clear e0
      have HM5 := HM4
      have b2 := HM5.out.2.2
      have r0 := b2.cell 0
      have f0 := b2.frozen 0
      have r1 := b2.cell 1
      have f1 := b2.frozen 1
      have r2 := b2.cell 2
      have f2 := b2.frozen 2
      have r3 := b2.cell 3
      have f3 := b2.frozen 3
      have r4 := b2.cell 4
      have f4 := b2.frozen 4
      have r5 := b2.cell 5
      have f5 := b2.frozen 5
      have r6 := b2.cell 6
      have f6 := b2.frozen 6
      have r7 := b2.cell 7
      have f7 := b2.frozen 7
      have r8 := b2.cell 8
      have f8 := b2.frozen 8
      simp only [headC, zeroH, List.getElem?_toArray, List.getElem?_cons_zero, List.getElem?_cons_succ] at r0 r1 r2 r3 r4 r5 r6 r7 r8
      clear b2
      have b1 := HM5.out.2.1
      have c0 := b1.cell 0
      have c1 := b1.cell 1
      have c2 := b1.cell 2
      have c3 := b1.cell 3
      have c4 := b1.cell 4
      have c5 := b1.cell 5
      have c6 := b1.cell 6
      have c7 := b1.cell 7
      have c8 := b1.cell 8
      simp only [headC, List.getElem?_toArray, List.getElem?_cons_zero, List.getElem?_cons_succ] at c0 c1 c2 c3 c4 c5 c6 c7 c8
      clear b1
      have E : Hid (U = h) := Lib.hid (by rw [HU.out]; rfl)
      go_wp2
      refine bodyPost_ret (ret_head1 rfl _ _ (w.heap.size + 1) rfl h (blk9 HM5.out.2.2 _ _ _ _ _ _ _ _ _)) rfl ?_
      exact ⟨by rw [E.out], below9 HM5.out.1 (by omega) _ _ _ _ _ _ _ _ _⟩
    | some lk =>
      go_upto_region 2 with fail
      clear x2 l76
      obtain ⟨W2, hW2⟩ : ∃ W2, W1.alloc (.cells #[.string (str []), .slice none 0 0] 133) = W2 := ⟨_, rfl⟩
      have e0 : W2.cell? ⟨W1.heap.size, 0, none⟩ = some (.string (str [])) := by rw [← hW2]; exact (Blk.new W1 133 _).cell 0
      have HM2 : Hid (Mid w W2 h) := Lib.hid (by rw [← hW2]; exact HM0.out.below ((Below.refl _ W1).alloc (Nat.le_refl _) _))
      have R2 := Lib.hid (HR.out.below HM2.out.1)
      rw [show W1.alloc (.cells #[.string (str []), .slice none 0 0] 133) = W2 from hW2]
      clear hW2
      go_upto_region 4 with fail
      clear e0
      obtain ⟨W3, hW3⟩ : ∃ W3, W2 = W3 := ⟨_, rfl⟩
      have HM3 := HM2
      rw [hW3] at HM3 ⊢
      clear hW3
      have R3 := Lib.hid (HR.out.below HM3.out.1)
      have x2 := R3.out.c2
      have l75 := R3.out.look75
      rw [HSL.out] at l75
      simp only [Option.getD_some, Option.isSome_some] at l75
      go_upto_region 5 with fail
      clear x2 l75
      obtain ⟨W4, hW4⟩ : ∃ W4, W3.alloc (.cells #[.string (str lk), .slice none 0 0] 133) = W4 := ⟨_, rfl⟩
      have e0 : W4.cell? ⟨W3.heap.size, 0, none⟩ = some (.string (str lk)) := by rw [← hW4]; exact (Blk.new W3 133 _).cell 0
      have HM4 : Hid (Mid w W4 h) := Lib.hid (by rw [← hW4]; exact HM3.out.below ((Below.refl _ W3).alloc (Nat.le_refl _) _))
      rw [show W3.alloc (.cells #[.string (str lk), .slice none 0 0] 133) = W4 from hW4]
      clear hW4
      have b1 := HM4.out.2.1
      have y1 := b1.cell 1
      have g1 := b1.frozen 1
      simp only [headC, List.getElem?_toArray, List.getElem?_cons_zero, List.getElem?_cons_succ] at y1
      clear b1
      go_upto_region 7 with fail
      have HM5 : Hid (Mid w (W4.setCell ⟨w.heap.size, 1, none⟩ (.string (str lk))) { h with link := lk }) := Lib.hid (HM4.out.put (h' := { h with link := lk }) ((Kept.refl (oneB w.heap.size) W4).setCell (a := ⟨w.heap.size, 1, none⟩) (.inr rfl) _) (HM4.out.2.1.set 1 _ (by show 1 < 9; decide)))
      clear y1 g1 e0
      obtain ⟨W5, hW5⟩ : ∃ W5, W4.setCell ⟨w.heap.size, 1, none⟩ (.string (str lk)) = W5 := ⟨_, rfl⟩
      rw [hW5] at HM5 ⊢
      clear hW5
      have b2 := HM5.out.2.2
      have r0 := b2.cell 0
      have f0 := b2.frozen 0
      have r1 := b2.cell 1
      have f1 := b2.frozen 1
      have r2 := b2.cell 2
      have f2 := b2.frozen 2
      have r3 := b2.cell 3
      have f3 := b2.frozen 3
      have r4 := b2.cell 4
      have f4 := b2.frozen 4
      have r5 := b2.cell 5
      have f5 := b2.frozen 5
      have r6 := b2.cell 6
      have f6 := b2.frozen 6
      have r7 := b2.cell 7
      have f7 := b2.frozen 7
      have r8 := b2.cell 8
      have f8 := b2.frozen 8
      simp only [headC, zeroH, List.getElem?_toArray, List.getElem?_cons_zero, List.getElem?_cons_succ] at r0 r1 r2 r3 r4 r5 r6 r7 r8
      clear b2
      have b1 := HM5.out.2.1
      have c0 := b1.cell 0
      have c1 := b1.cell 1
      have c2 := b1.cell 2
      have c3 := b1.cell 3
      have c4 := b1.cell 4
      have c5 := b1.cell 5
      have c6 := b1.cell 6
      have c7 := b1.cell 7
      have c8 := b1.cell 8
      simp only [headC, List.getElem?_toArray, List.getElem?_cons_zero, List.getElem?_cons_succ] at c0 c1 c2 c3 c4 c5 c6 c7 c8
      clear b1
      have E : Hid (U = { h with link := lk }) := Lib.hid (by rw [HU.out]; rfl)
      go_wp2
      refine bodyPost_ret (ret_head1 rfl _ _ (w.heap.size + 1) rfl { h with link := lk } (blk9 HM5.out.2.2 _ _ _ _ _ _ _ _ _)) rfl ?_
      exact ⟨by rw [E.out], below9 HM5.out.1 (by omega) _ _ _ _ _ _ _ _ _⟩
  | some nm =>
    simp only [Option.getD_some, Option.isSome_some] at l76
    cases sl with
    | none =>
      go_upto_region 2 with fail
      clear x2 l76
      obtain ⟨W2, hW2⟩ : ∃ W2, W1.alloc (.cells #[.string (str nm), .slice none 0 0] 133) = W2 := ⟨_, rfl⟩
      have e0 : W2.cell? ⟨W1.heap.size, 0, none⟩ = some (.string (str nm)) := by rw [← hW2]; exact (Blk.new W1 133 _).cell 0
      have HM2 : Hid (Mid w W2 h) := Lib.hid (by rw [← hW2]; exact HM0.out.below ((Below.refl _ W1).alloc (Nat.le_refl _) _))
      have R2 := Lib.hid (HR.out.below HM2.out.1)
      rw [show W1.alloc (.cells #[.string (str nm), .slice none 0 0] 133) = W2 from hW2]
      clear hW2
      have b1 := HM2.out.2.1
      have y0 := b1.cell 0
      have g0 := b1.frozen 0
      simp only [headC, List.getElem?_toArray, List.getElem?_cons_zero] at y0
      clear b1
      go_upto_region 4 with fail
      have HM3 : Hid (Mid w (W2.setCell ⟨w.heap.size, 0, none⟩ (.string (str nm))) { h with name := nm }) := Lib.hid (HM2.out.put (h' := { h with name := nm }) ((Kept.refl (oneB w.heap.size) W2).setCell (a := ⟨w.heap.size, 0, none⟩) (.inr rfl) _) (HM2.out.2.1.set 0 _ (by show 0 < 9; decide)))
      clear y0 g0 e0
      obtain ⟨W3, hW3⟩ : ∃ W3, W2.setCell ⟨w.heap.size, 0, none⟩ (.string (str nm)) = W3 := ⟨_, rfl⟩
      rw [hW3] at HM3 ⊢
      clear hW3
      have R3 := Lib.hid (HR.out.below HM3.out.1)
      have x2 := R3.out.c2
      have l75 := R3.out.look75
      rw [HSL.out] at l75
      simp only [Option.getD_none, Option.isSome_none] at l75
      go_upto_region 5 with fail
      clear x2 l75
      obtain ⟨W4, hW4⟩ : ∃ W4, W3.alloc (.cells #[.string (str []), .slice none 0 0] 133) = W4 := ⟨_, rfl⟩
      have e0 : W4.cell? ⟨W3.heap.size, 0, none⟩ = some (.string (str [])) := by rw [← hW4]; exact (Blk.new W3 133 _).cell 0
      have HM4 : Hid (Mid w W4 { h with name := nm }) := Lib.hid (by rw [← hW4]; exact HM3.out.below ((Below.refl _ W3).alloc (Nat.le_refl _) _))
      rw [show W3.alloc (.cells #[.string (str []), .slice none 0 0] 133) = W4 from hW4]
      clear hW4
      go_upto_region 7 with fail
      clear e0
      have HM5 := HM4
      have b2 := HM5.out.2.2
      have r0 := b2.cell 0
      have f0 := b2.frozen 0
      have r1 := b2.cell 1
      have f1 := b2.frozen 1
      have r2 := b2.cell 2
      have f2 := b2.frozen 2
      have r3 := b2.cell 3
      have f3 := b2.frozen 3
      have r4 := b2.cell 4
      have f4 := b2.frozen 4
      have r5 := b2.cell 5
      have f5 := b2.frozen 5
      have r6 := b2.cell 6
      have f6 := b2.frozen 6
      have r7 := b2.cell 7
      have f7 := b2.frozen 7
      have r8 := b2.cell 8
      have f8 := b2.frozen 8
      simp only [headC, zeroH, List.getElem?_toArray, List.getElem?_cons_zero, List.getElem?_cons_succ] at r0 r1 r2 r3 r4 r5 r6 r7 r8
      clear b2
      have b1 := HM5.out.2.1
      have c0 := b1.cell 0
      have c1 := b1.cell 1
      have c2 := b1.cell 2
      have c3 := b1.cell 3
      have c4 := b1.cell 4
      have c5 := b1.cell 5
      have c6 := b1.cell 6
      have c7 := b1.cell 7
      have c8 := b1.cell 8
      simp only [headC, List.getElem?_toArray, List.getElem?_cons_zero, List.getElem?_cons_succ] at c0 c1 c2 c3 c4 c5 c6 c7 c8
      clear b1
      have E : Hid (U = { h with name := nm }) := Lib.hid (by rw [HU.out]; rfl)
      go_wp2
      refine bodyPost_ret (ret_head1 rfl _ _ (w.heap.size + 1) rfl { h with name := nm } (blk9 HM5.out.2.2 _ _ _ _ _ _ _ _ _)) rfl ?_
      exact ⟨by rw [E.out], below9 HM5.out.1 (by omega) _ _ _ _ _ _ _ _ _⟩
    | some lk =>
      go_upto_region 2 with fail
      clear x2 l76
      obtain ⟨W2, hW2⟩ : ∃ W2, W1.alloc (.cells #[.string (str nm), .slice none 0 0] 133) = W2 := ⟨_, rfl⟩
      have e0 : W2.cell? ⟨W1.heap.size, 0, none⟩ = some (.string (str nm)) := by rw [← hW2]; exact (Blk.new W1 133 _).cell 0
      have HM2 : Hid (Mid w W2 h) := Lib.hid (by rw [← hW2]; exact HM0.out.below ((Below.refl _ W1).alloc (Nat.le_refl _) _))
      have R2 := Lib.hid (HR.out.below HM2.out.1)
      rw [show W1.alloc (.cells #[.string (str nm), .slice none 0 0] 133) = W2 from hW2]
      clear hW2
      have b1 := HM2.out.2.1
      have y0 := b1.cell 0
      have g0 := b1.frozen 0
      simp only [headC, List.getElem?_toArray, List.getElem?_cons_zero] at y0
      clear b1
      go_upto_region 4 with fail
      have HM3 : Hid (Mid w (W2.setCell ⟨w.heap.size, 0, none⟩ (.string (str nm))) { h with name := nm }) := Lib.hid (HM2.out.put (h' := { h with name := nm }) ((Kept.refl (oneB w.heap.size) W2).setCell (a := ⟨w.heap.size, 0, none⟩) (.inr rfl) _) (HM2.out.2.1.set 0 _ (by show 0 < 9; decide)))
      clear y0 g0 e0
      obtain ⟨W3, hW3⟩ : ∃ W3, W2.setCell ⟨w.heap.size, 0, none⟩ (.string (str nm)) = W3 := ⟨_, rfl⟩
      rw [hW3] at HM3 ⊢
      clear hW3
      have R3 := Lib.hid (HR.out.below HM3.out.1)
      have x2 := R3.out.c2
      have l75 := R3.out.look75
      rw [HSL.out] at l75
      simp only [Option.getD_some, Option.isSome_some] at l75
      go_upto_region 5 with fail
      clear x2 l75
      obtain ⟨W4, hW4⟩ : ∃ W4, W3.alloc (.cells #[.string (str lk), .slice none 0 0] 133) = W4 := ⟨_, rfl⟩
      have e0 : W4.cell? ⟨W3.heap.size, 0, none⟩ = some (.string (str lk)) := by rw [← hW4]; exact (Blk.new W3 133 _).cell 0
      have HM4 : Hid (Mid w W4 { h with name := nm }) := Lib.hid (by rw [← hW4]; exact HM3.out.below ((Below.refl _ W3).alloc (Nat.le_refl _) _))
      rw [show W3.alloc (.cells #[.string (str lk), .slice none 0 0] 133) = W4 from hW4]
      clear hW4
      have b1 := HM4.out.2.1
      have y1 := b1.cell 1
      have g1 := b1.frozen 1
      simp only [headC, List.getElem?_toArray, List.getElem?_cons_zero, List.getElem?_cons_succ] at y1
      clear b1
      go_upto_region 7 with fail
      have HM5 : Hid (Mid w (W4.setCell ⟨w.heap.size, 1, none⟩ (.string (str lk))) { h with name := nm, link := lk }) := Lib.hid (HM4.out.put (h' := { h with name := nm, link := lk }) ((Kept.refl (oneB w.heap.size) W4).setCell (a := ⟨w.heap.size, 1, none⟩) (.inr rfl) _) (HM4.out.2.1.set 1 _ (by show 1 < 9; decide)))
      clear y1 g1 e0
      obtain ⟨W5, hW5⟩ : ∃ W5, W4.setCell ⟨w.heap.size, 1, none⟩ (.string (str lk)) = W5 := ⟨_, rfl⟩
      rw [hW5] at HM5 ⊢
      clear hW5
      have b2 := HM5.out.2.2
      have r0 := b2.cell 0
      have f0 := b2.frozen 0
      have r1 := b2.cell 1
      have f1 := b2.frozen 1
      have r2 := b2.cell 2
      have f2 := b2.frozen 2
      have r3 := b2.cell 3
      have f3 := b2.frozen 3
      have r4 := b2.cell 4
      have f4 := b2.frozen 4
      have r5 := b2.cell 5
      have f5 := b2.frozen 5
      have r6 := b2.cell 6
      have f6 := b2.frozen 6
      have r7 := b2.cell 7
      have f7 := b2.frozen 7
      have r8 := b2.cell 8
      have f8 := b2.frozen 8
      simp only [headC, zeroH, List.getElem?_toArray, List.getElem?_cons_zero, List.getElem?_cons_succ] at r0 r1 r2 r3 r4 r5 r6 r7 r8
      clear b2
      have b1 := HM5.out.2.1
      have c0 := b1.cell 0
      have c1 := b1.cell 1
      have c2 := b1.cell 2
      have c3 := b1.cell 3
      have c4 := b1.cell 4
      have c5 := b1.cell 5
      have c6 := b1.cell 6
      have c7 := b1.cell 7
      have c8 := b1.cell 8
      simp only [headC, List.getElem?_toArray, List.getElem?_cons_zero, List.getElem?_cons_succ] at c0 c1 c2 c3 c4 c5 c6 c7 c8
      clear b1
      have E : Hid (U = { h with name := nm, link := lk }) := Lib.hid (by rw [HU.out]; rfl)
      go_wp2
      refine bodyPost_ret (ret_head1 rfl _ _ (w.heap.size + 1) rfl { h with name := nm, link := lk } (blk9 HM5.out.2.2 _ _ _ _ _ _ _ _ _)) rfl ?_
      exact ⟨by rw [E.out], below9 HM5.out.1 (by omega) _ _ _ _ _ _ _ _ _⟩
end
end Go.Proofs.YtdjedimjhogdoaaGreatDoor.Mem
end
section
namespace Go.Proofs.YtdjedimjhogdoaaGreatDoor.Block
open Go.ChangeShapes Go.WideShapes Go.ChangeAt Go.RowKit Go.Proofs.YtdjedimjhogdoaaGreatDoor.Base Go.Proofs.YtdjedimjhogdoaaGreatDoor.Byt Go.Proofs.YtdjedimjhogdoaaGreatDoor.Num Go.Lib
set_option linter.unusedVariables false

section
variable {w w' : World} {g B : Nat} {v : Value} {bs : List UInt8}
end
/-- the blocks that a put may write to -/
def putB (g : Nat) (v : Value) : Nat → Prop := fun k => k = g ∨ v.ownBlock = some k

/-- the list of byte slices at p: the i-th lies at A i, has M i bytes, and these are Bs i -/
def LAt (w : World) (p : Option Addr) (n : Nat) (A : Nat → Option Addr) (M C : Nat → Nat) (Bs : Nat → List UInt8) : Prop :=
  0 < n → ∃ b o, p = some ⟨b, o, none⟩ ∧ b < w.heap.size ∧ ∀ i, i < n → w.cell? ⟨b, o + i, none⟩ = some (.slice (A i) (M i) (C i)) ∧ BAt w (A i) (M i) (Bs i) ∧ (Bs i).length = M i
/-- the bytes of the first k, one behind the other -/
def catB (Bs : Nat → List UInt8) : Nat → List UInt8
  | 0 => []
  | k + 1 => catB Bs k ++ Bs k
theorem catB_le (Bs : Nat → List UInt8) (k : Nat) : ∀ n, k ≤ n → (catB Bs k).length ≤ (catB Bs n).length
  | 0, h => by obtain rfl : k = 0 := by omega
               exact Nat.le_refl _
  | n + 1, h => by
    by_cases hk : k = n + 1
    · subst hk; exact Nat.le_refl _
    · have := catB_le Bs k n (by omega)
      rw [catB, List.length_append]
      omega

theorem catB_two (x y : List UInt8) : catB (fun i => if i = 0 then x else y) 2 = x ++ y := by simp [catB]
theorem catB_one (x : List UInt8) : catB (fun _ => x) 1 = x := by simp [catB]
/-- zeros to whole blocks -/
def zerosTo (k : Nat) : List UInt8 := List.replicate (padN k - k) 0
end Go.Proofs.YtdjedimjhogdoaaGreatDoor.Block
end
section
namespace Go.Proofs.YtdjedimjhogdoaaGreatDoor.Block
open Go.ChangeShapes Go.WideShapes Go.ChangeAt Go.RowKit Go.Proofs.YtdjedimjhogdoaaGreatDoor.Base Go.Proofs.YtdjedimjhogdoaaGreatDoor.Byt Go.Proofs.YtdjedimjhogdoaaGreatDoor.Num Go.Lib
set_option linter.unusedVariables false

theorem seven_iat (w : World) (t : TypeId) : IAt (w.alloc (.cells #[.int .i64 7] t)) (some ⟨w.heap.size, 0, none⟩) 1 [7] := fun _ =>
  ⟨w.heap.size, 0, rfl, by simp, fun i hi => by
    rw [Nat.zero_add, World.cell?_alloc_new]
    match i, hi with
    | 0, _ => simp⟩
/-- []byte("abc"): the row is laid, and marked behind its end -/
theorem abc_bat (w : World) (t : TypeId) (fr : Nat × Nat) : BAt (w.alloc (.cells #[.int .u8 97, .int .u8 98, .int .u8 99] t fr)) (some ⟨w.heap.size, 0, none⟩) 3 [97, 98, 99] := fun _ =>
  ⟨w.heap.size, 0, rfl, fun i hi => by
    rw [Nat.zero_add, World.cell?_alloc_mark]
    match i, hi with
    | 0, _ => simp
    | 1, _ => simp
    | 2, _ => simp⟩
/-- the example's bytes -/
def exampleB : List UInt8 := ([97, 98, 99] ++ zerosTo 3) ++ List.replicate 1024 0
theorem example_is : ∃ (D D1 : List UInt8), D1 = [97, 98, 99] ++ zerosTo 3 ∧ D = D1 ++ List.replicate 1024 0 ∧ D1.length = 512 ∧ D.length = 1536 ∧ (D.drop 0).take 3 = [97, 98, 99] ∧ restB (D.drop 1024) = true :=
  ⟨exampleB, [97, 98, 99] ++ zerosTo 3, rfl, rfl, by decide +kernel, by decide +kernel, by decide +kernel, by decide +kernel⟩
theorem padN_3 : padN 3 = 512 := by decide
end Go.Proofs.YtdjedimjhogdoaaGreatDoor.Block
end
section
namespace Go.Proofs.YtdjedimjhogdoaaGreatDoor.Block
open Go.ChangeShapes Go.WideShapes Go.ChangeAt Go.RowKit Go.Proofs.YtdjedimjhogdoaaGreatDoor.Base Go.Proofs.YtdjedimjhogdoaaGreatDoor.Byt Go.Proofs.YtdjedimjhogdoaaGreatDoor.Num Go.Lib
set_option linter.unusedVariables false

/-- error, bytes, and the place behind -/
def blkR (bs : List UInt8) (a : Nat) : Int × List UInt8 × Nat :=
  if a = bs.length then (14, [], a) else if a + 512 ≤ bs.length then (0, (bs.drop a).take 512, a + 512) else (2, [], bs.length)
def bodR (bs : List UInt8) (a : Nat) (n : Int) : Int × List UInt8 × Nat :=
  if 0 ≤ n ∧ n ≤ 4611686018427387904 then (if a + padN n.toNat ≤ bs.length then (0, (bs.drop a).take n.toNat, a + padN n.toNat) else (2, [], bs.length)) else (4, [], a)
def ResPost (w : World) (g : Nat) (S : Sv) (E : Int) (X : List UInt8) (a' : Nat) (e : Ending) (w' : World) : Prop :=
  ∃ (p : Option Addr) (m c t' : Nat), e = .returned (.tuple #[.slice p m c, .int .i64 E]) ∧ X.length = m ∧ BAt w' p m X ∧ (∀ x, p = some x → w.heap.size ≤ x.block) ∧ Src w' g S a' t' ∧ Kept (oneB g) w w'
theorem block_res (w : World) (g a t : Nat) (S : Sv) (h : Src w g S a t) (ho : S.off g) :
    Calls Tryz.prog 49 #[.pointer (some ⟨g, 0, none⟩)] w (ResPost w g S (blkR S.bs a).1 (blkR S.bs a).2.1 (blkR S.bs a).2.2) := by
  refine (srcBlock_any w g a t S h ho).mono ?_
  intro e w' h'
  have hl := h.len
  unfold blkR
  rcases h' with ⟨h1, rfl, ⟨t', h2⟩, h3⟩ | ⟨h0, ⟨h1, v, rfl, h2, ⟨t', h3⟩, h4⟩ | ⟨h1, rfl, ⟨t', h3⟩, h4⟩⟩
  · rw [if_pos (by omega)]
    exact ⟨none, 0, 0, t', rfl, rfl, fun hh => absurd hh (by omega), (fun x hx => by cases hx), h2, h3⟩
  · rw [if_neg (by omega), if_pos (by omega)]
    obtain ⟨p, c, rfl, _, _, h5, h6, h7⟩ := h2.slice
    exact ⟨p, 512, c, t', rfl, h6, h5, fun x hx => (h7 x hx).1, h3, h4⟩
  · rw [if_neg (by omega), if_neg (by omega)]
    exact ⟨none, 0, 0, t', rfl, rfl, fun hh => absurd hh (by omega), (fun x hx => by cases hx), by rw [hl]; exact h3, h4⟩
theorem body_res (w : World) (g a t : Nat) (S : Sv) (h : Src w g S a t) (ho : S.off g) (n : Int) :
    Calls Tryz.prog 79 #[.pointer (some ⟨g, 0, none⟩), .int .i64 n] w (ResPost w g S (bodR S.bs a n).1 (bodR S.bs a n).2.1 (bodR S.bs a n).2.2) := by
  have hl := h.len
  by_cases hn : 0 ≤ n ∧ n ≤ 4611686018427387904
  · obtain ⟨k, rfl⟩ : ∃ k : Nat, n = k := ⟨n.toNat, by omega⟩
    refine (body_any w g a t S h ho k (by omega)).mono ?_
    intro e w' h'
    unfold bodR
    rw [if_pos hn, Int.toNat_natCast]
    rcases h' with ⟨h1, p, rfl, h2, h3, ⟨t', h4⟩, h5⟩ | ⟨h1, rfl, ⟨t', h3⟩, h4⟩
    · rw [if_pos (by omega)]
      have hk : ((S.bs.drop a).take k).length = k := by rw [List.length_take, List.length_drop, hl]; have := padN_ge k; omega
      exact ⟨p, k, k, t', rfl, hk, h2, h3, h4, h5⟩
    · rw [if_neg (by omega)]
      exact ⟨none, 0, 0, t', rfl, rfl, fun hh => absurd hh (by omega), (fun x hx => by cases hx), by rw [hl]; exact h3, h4⟩
  · refine (body_wrong w g a t S h n hn).mono ?_
    rintro e w' ⟨rfl, h2, h3⟩
    unfold bodR
    rw [if_neg hn]
    exact ⟨none, 0, 0, t, rfl, rfl, fun hh => absurd hh (by omega), (fun x hx => by cases hx), h2, h3.of_none _⟩
theorem blkR_le (bs : List UInt8) (a : Nat) (h : a ≤ bs.length) : (blkR bs a).2.2 ≤ bs.length := by
  unfold blkR
  split
  · exact h
  · split
    · assumption
    · exact Nat.le_refl _
theorem bodR_le (bs : List UInt8) (a : Nat) (n : Int) (h : a ≤ bs.length) : (bodR bs a n).2.2 ≤ bs.length := by
  unfold bodR
  split
  · split
    · assumption
    · exact Nat.le_refl _
  · exact h

/-- the asks at p: the i-th is V i, of U i bytes -/
def AAt (w : World) (p : Option Addr) (n : Nat) (V : Nat → Bool) (U : Nat → Int) : Prop :=
  0 < n → ∃ b o, p = some ⟨b, o, none⟩ ∧ b < w.heap.size ∧ ∀ i, i < n → w.cell? ⟨b, o + i * 2, none⟩ = some (.bool (V i)) ∧ w.cell? ⟨b, o + i * 2 + 1, none⟩ = some (.int .i64 (U i)) ∧ (Lit.int .i64 (U i)).wf = true
theorem AAt.kept {T : Nat → Prop} {w w' : World} {p : Option Addr} {n : Nat} {V : Nat → Bool} {U : Nat → Int} (h : AAt w p n V U) (hk : Kept T w w') (hn : 0 < n → ∀ a, p = some a → ¬ T a.block) : AAt w' p n V U := fun h0 => by
  obtain ⟨b, o, rfl, hbw, hc⟩ := h h0
  have hb := hk.block b hbw (hn h0 _ rfl)
  exact ⟨b, o, rfl, Nat.lt_of_lt_of_le hbw hk.size, fun i hi => ⟨by rw [World.cell?_of_block hb]; exact (hc i hi).1, by rw [World.cell?_of_block hb]; exact (hc i hi).2.1, (hc i hi).2.2⟩⟩
/-- what a source leads to lies in no block g -/
def Sv.apart (S : Sv) (g : Nat) : Prop := (∀ x, S.p = some x → x.block ≠ g) ∧ (∀ x, S.q = some x → x.block ≠ g)
theorem Src.kept1 {w w' : World} {g a t g' : Nat} {S : Sv} (h : Src w g S a t) (hk : Kept (oneB g') w w') (hg : g ≠ g') (hap : S.apart g') : Src w' g S a t :=
  h.kept hk hg (fun _ x hx => hap.1 x hx) (fun _ x hx => hap.2 x hx)
end Go.Proofs.YtdjedimjhogdoaaGreatDoor.Block
end
section
namespace Go.Proofs.YtdjedimjhogdoaaGreatDoor.Mp
open Go.ChangeShapes Go.WideShapes Go.ChangeAt Go.RowKit Go.MapKept Go.Proofs.YtdjedimjhogdoaaGreatDoor.Base Go.Proofs.YtdjedimjhogdoaaGreatDoor.Byt
set_option linter.unusedVariables false

def keyV (k : Nat) : Value := .int .i64 k
theorem keyV_inj {a b : Nat} (h : keyV a = keyV b) : a = b := by unfold keyV at h; injection h with _ h; omega
/-- block B is a map that holds f -/
def MapF (w : World) (B : Nat) (f : Nat → Option Value) : Prop :=
  ∃ es clock, w.heap[B]? = some (.map es clock) ∧ Stamped es clock ∧ (∀ e ∈ es.toList, ∃ k, e.key = keyV k ∧ f k = some e.val) ∧ (∀ k v, f k = some v → ∃ e ∈ es.toList, e.key = keyV k)
/-- block R is an iterator over it, with todo still to come -/
def IterF (w : World) (B R : Nat) (f : Nat → Option Value) (todo : Nat → Bool) : Prop :=
  ∃ es clock since seen c0, w.heap[B]? = some (.map es clock) ∧ Stamped es clock ∧ (∀ e ∈ es.toList, ∃ k, e.key = keyV k ∧ f k = some e.val) ∧ (∀ k v, f k = some v → ∃ e ∈ es.toList, e.key = keyV k) ∧
    w.heap[R]? = some (.mapIter (some B) since seen c0) ∧ (∀ x ∈ es.toList, x.born < since) ∧ since ≤ c0 ∧ since ≤ clock ∧ (∀ x ∈ es.toList, ∀ k, x.key = keyV k → todo k = !seen.contains x.born)
section
variable {w w' : World} {B R : Nat} {f : Nat → Option Value} {todo : Nat → Bool}
theorem MapF.lt (h : MapF w B f) : B < w.heap.size := by
  obtain ⟨es, clock, hb, _⟩ := h
  exact (Array.getElem?_eq_some_iff.1 hb).1
theorem MapF.kept {S : Nat → Prop} (h : MapF w B f) (hk : Kept S w w') (hB : ¬ S B) : MapF w' B f := by
  obtain ⟨es, clock, hb, h⟩ := h
  exact ⟨es, clock, hk.some_ hb hB, h⟩
theorem IterF.map (h : IterF w B R f todo) : MapF w B f := by
  obtain ⟨es, clock, since, seen, c0, hb, hs, h1, h2, _⟩ := h
  exact ⟨es, clock, hb, hs, h1, h2⟩
theorem IterF.ltR (h : IterF w B R f todo) : R < w.heap.size := by
  obtain ⟨es, clock, since, seen, c0, hb, hs, h1, h2, hr, _⟩ := h
  exact (Array.getElem?_eq_some_iff.1 hr).1
theorem IterF.kept {S : Nat → Prop} (h : IterF w B R f todo) (hk : Kept S w w') (hB : ¬ S B) (hR : ¬ S R) : IterF w' B R f todo ∧ w'.rangeLeft B R = w.rangeLeft B R := by
  obtain ⟨es, clock, since, seen, c0, hb, hs, h1, h2, hr, h3⟩ := h
  have hb' := hk.some_ hb hB
  have hr' := hk.some_ hr hR
  exact ⟨⟨es, clock, since, seen, c0, hb', hs, h1, h2, hr', h3⟩, by simp only [World.rangeLeft, hb, hr, hb', hr']⟩
theorem mapF_made (w : World) : MapF (w.alloc (.map #[] 0)) w.heap.size (fun _ => none) :=
  ⟨#[], 0, (MapKept.heap_alloc w _).1, stamped_empty 0, by simp, by simp⟩
theorem kept_setBlock {o o' : Obj} (hb : w.heap[B]? = some o) : Kept (oneB B) w (Go.ChangeMaps.setBlock w B o') :=
  ⟨rfl, rfl, rfl, by simp [Go.ChangeMaps.setBlock], fun k hk hn => (MapKept.heap_set hb).2 k hn⟩

variable {P : Program} {t k e : TypeId}
theorem isKey_keyV (x : Nat) : IsKey (.int .i64) (keyV x) := rfl
/-- a new key is written -/
theorem MapF.put (h : MapF w B f) (ht : P.underlying t = some (.map k e)) (hk : P.underlying k = some (.int .i64)) (x : Nat) (v : Value) (hx : f x = none) :
    ∃ w', (Instr.mapUpdate t (.map (some B)) (keyV x) v).run P w = .ok () w' ∧ MapF w' B (fun y => if y = x then some v else f y) ∧ Kept (oneB B) w w' ∧ w'.heap.size = w.heap.size := by
  obtain ⟨es, clock, hb, hs, h1, h2⟩ := h
  have hne : ∀ y ∈ es.toList, y.key ≠ keyV x := fun y hy hyx => by
    obtain ⟨j, hj, hf⟩ := h1 y hy
    have := keyV_inj (hj.symm.trans hyx)
    subst this
    rw [hx] at hf
    cases hf
  have hfind : Instr.findNow (.int .i64) (keyV x) es.toList 0 = some none := by
    rcases findNow_spec (isKey_keyV x) es.toList 0 (fun y hy => by obtain ⟨j, hj, _⟩ := h1 y hy; rw [hj]; exact isKey_keyV j) with ⟨h, _⟩ | ⟨j, e0, _, h3, h4⟩
    · exact h
    · exact absurd h4 (hne e0 (List.mem_of_getElem? h3))
  refine ⟨Go.ChangeMaps.setBlock w B (.map (es.push { key := keyV x, val := v, born := clock }) (clock + 1)), ?_, ⟨_, _, (MapKept.heap_set hb).1, stamped_push hs hne, ?_, ?_⟩, kept_setBlock hb, by simp [Go.ChangeMaps.setBlock]⟩
  · simp [Instr.mapUpdate, run_underlying ht, MapKept.run_getObj_map hb, run_checkKey hk (isKey_keyV x), run_findKey hk hfind, MapKept.run_setObj_map _ hb, Result.andThen, Go.ChangeMaps.setBlock]
  · intro y hy
    simp only [Array.toList_push, List.mem_append, List.mem_singleton] at hy
    rcases hy with hy | rfl
    · obtain ⟨j, hj, hf⟩ := h1 y hy
      refine ⟨j, hj, ?_⟩
      show (if j = x then some v else f j) = _
      rw [if_neg (fun e => hne y hy (by rw [hj, e]))]
      exact hf
    · exact ⟨x, rfl, by show (if x = x then some v else f x) = _; rw [if_pos rfl]⟩
  · intro j u hj
    simp only [Array.toList_push, List.mem_append, List.mem_singleton]
    have hj : (if j = x then some v else f j) = some u := hj
    by_cases hjx : j = x
    · exact ⟨_, Or.inr rfl, by rw [hjx]⟩
    · rw [if_neg hjx] at hj
      obtain ⟨y, hy, hk⟩ := h2 j u hj
      exact ⟨y, Or.inl hy, hk⟩
/-- what is there is found -/
theorem MapF.look (h : MapF w B f) (ht : P.underlying t = some (.map k e)) (hk : P.underlying k = some (.int .i64)) {x : Nat} {v : Value} (hx : f x = some v) :
    (Instr.lookup t (.map (some B)) (keyV x) false).run P w = .ok v w := by
  obtain ⟨es, clock, hb, hs, h1, h2⟩ := h
  obtain ⟨e1, he1, hk1⟩ := h2 x v hx
  rcases findNow_spec (isKey_keyV x) es.toList 0 (fun y hy => by obtain ⟨j, hj, _⟩ := h1 y hy; rw [hj]; exact isKey_keyV j) with ⟨_, hno⟩ | ⟨j, e0, hfind, h3, h4⟩
  · exact absurd hk1 (hno e1 he1)
  · have hv : e0.val = v := by
      obtain ⟨j', hj', hf⟩ := h1 e0 (List.mem_of_getElem? h3)
      have := keyV_inj (hj'.symm.trans h4)
      subst this
      rw [hx] at hf
      exact (Option.some.inj hf).symm
    have hfind' : Instr.findNow (.int .i64) (keyV x) es.toList 0 = some (some (0 + j, e0.val)) := by simpa using hfind
    simp [Instr.lookup, run_underlying ht, MapKept.run_getObj_map hb, run_checkKey hk (isKey_keyV x), run_findKey hk hfind', Result.andThen, hv]
/-- range begins -/
theorem MapF.range (h : MapF w B f) (ht : P.underlying t = some (.map k e)) (htodo : ∀ j v, f j = some v → todo j = true) :
    ∃ w', (Instr.range t (.map (some B))).run P w = .ok (.pointer (some ⟨w.heap.size, 0, none⟩)) w' ∧ IterF w' B w.heap.size f todo ∧ Kept noneB w w' ∧ w'.heap.size = w.heap.size + 1 := by
  have hlt := h.lt
  obtain ⟨es, clock, hb, hs, h1, h2⟩ := h
  refine ⟨_, run_range_map w t k e B es clock ht hb, ⟨es, clock, clock, #[], clock, ((MapKept.heap_alloc w _).2 B hlt).trans hb, hs, h1, h2, (MapKept.heap_alloc w _).1, hs.1, Nat.le_refl _, Nat.le_refl _, ?_⟩, (Kept.refl _ _).alloc _, by simp⟩
  intro x hx j hj
  obtain ⟨j', hj', hf⟩ := h1 x hx
  have := keyV_inj (hj'.symm.trans hj)
  subst this
  simp [htodo _ _ hf]
/-- the step: whichever is still to come -/
theorem IterF.next (h : IterF w B R f todo) (ty : TypeId) :
    ((∀ j v, f j = some v → todo j = false) ∧ (Instr.next (.pointer (some ⟨R, 0, none⟩)) false ty).run P w = .ok (.tuple #[.bool false]) w) ∨
    ∃ j v w', f j = some v ∧ todo j = true ∧ (Instr.next (.pointer (some ⟨R, 0, none⟩)) false ty).run P w = .ok (.tuple #[.bool true, keyV j, v]) w' ∧ IterF w' B R f (fun z => todo z && z != j) ∧ w'.rangeLeft B R < w.rangeLeft B R ∧
      Kept (oneB R) w w' ∧ w'.heap.size = w.heap.size ∧ (Instr.entry (.pointer (some ⟨R, 0, none⟩))).run P w' = .ok (.tuple #[keyV j, v]) w' := by
  obtain ⟨es, clock, since, seen, c0, hb, hs, h1, h2, hr, hold, hsc, hsk, htd⟩ := h
  have hBR : B ≠ R := fun e => by subst e; rw [hb] at hr; cases hr
  rcases run_next_at (P := P) w ty R B since c0 seen es clock hr hb hold hsc with ⟨h0, hrun⟩ | ⟨e, he, w1, hal, hrun⟩
  · refine Or.inl ⟨fun j v hj => ?_, hrun⟩
    obtain ⟨x, hx, hk⟩ := h2 j v hj
    rw [htd x hx j hk, all_seen es seen h0 x hx]
    rfl
  · obtain ⟨hem, hes⟩ := mem_left he
    obtain ⟨j, hj, hf⟩ := h1 e hem
    have hr1 : w1.heap[R]? = some (.mapIter (some B) since seen c0) := by rcases hal with rfl | rfl <;> exact hr
    have hb1 : w1.heap[B]? = some (.map es clock) := by rcases hal with rfl | rfl <;> exact hb
    have hk1 : Kept (oneB R) w w1 := by
      rcases hal with rfl | rfl
      · exact Kept.refl _ _
      · exact (Kept.refl _ _).drew
    have hrs : (Go.ChangeMaps.setBlock w1 R (.mapIter (some B) since (seen.push e.born) clock)).heap[R]? = some (.mapIter (some B) since (seen.push e.born) clock) := (MapKept.heap_set hr1).1
    have hbs : (Go.ChangeMaps.setBlock w1 R (.mapIter (some B) since (seen.push e.born) clock)).heap[B]? = some (.map es clock) := ((MapKept.heap_set hr1).2 B hBR).trans hb1
    have hsz : (Go.ChangeMaps.setBlock w1 R (.mapIter (some B) since (seen.push e.born) clock)).heap.size = w.heap.size := by
      have : w1.heap.size = w.heap.size := by rcases hal with rfl | rfl <;> rfl
      simp [Go.ChangeMaps.setBlock, this]
    rw [hj] at hrun
    refine Or.inr ⟨j, e.val, _, hf, ?_, hrun, ⟨es, clock, since, seen.push e.born, clock, hbs, hs, h1, h2, hrs, hold, hsk, hsk, ?_⟩, ?_, hk1.trans (kept_setBlock hr1), hsz, ?_⟩
    · rw [htd e hem j hj, hes]; rfl
    · intro x hx i hi
      show (todo i && i != j) = !(seen.push e.born).contains x.born
      rw [htd x hx i hi, contains_push, Bool.not_or]
      congr 1
      by_cases hij : i = j
      · have hxe : x = e := entry_eq_of_key ((stamped_iff es clock).1 hs).2.2 hx hem (by rw [hi, hj, hij])
        subst hxe
        simp [hij]
      · have hxe : x.born ≠ e.born := fun hh => hij (by
          obtain rfl := born_inj hs.2.1 hx hem hh
          exact keyV_inj (hi.symm.trans hj))
        have h5 : (x.born == e.born) = false := by simpa using hxe
        have h6 : (i != j) = true := by simpa using hij
        rw [h5, h6]
        rfl
    · simp only [World.rangeLeft, hb, hr, hbs, hrs]
      exact left_shrinks es seen e he
    · rw [← hj]
      exact run_entry_at _ R B since seen es clock e hrs hbs hem hs.2.1
end
/-! ### at the operations -/
section
variable {P : Program} {w : World} {ops : Array Oper} {rest : List Oper} {o : Oper} {a : Act} {Q : Exit → Act → World → Prop} {f : Nat → Option Value} {t k e : TypeId}
theorem wpList_insertF (hg : o.guard = none) (m x v : Operand) (hop : o.op = .mapUpdate t m x v ∨ o.op = .insert t m x v) (ht : P.underlying t = some (.map k e)) (hk : P.underlying k = some (.int .i64))
    (B : Nat) (h : MapF w B f) (hm : a.eval m = .map (some B)) (key : Nat) (hx : a.eval x = keyV key) (hf : f key = none) (val : Value) (hv : a.eval v = val)
    (hK : ∀ w', Hid (MapF w' B (fun y => if y = key then some val else f y)) → Hid (Kept (oneB B) w w') → w'.heap.size = w.heap.size → wpList P ops Q rest (a.put o.dst undef) w') : wpList P ops Q (o :: rest) a w := by
  refine wpList_plain hg fun K' hK' => ?_
  subst hv
  obtain ⟨w', hrun, h1, h2, h3⟩ := h.put ht hk key (a.eval v) hf
  unfold Oper.wp
  rcases hop with hop | hop
  · simp [execOp, hop, hm, hx, hrun, Result.andThen]
    exact hK' _ _ (hK w' (Lib.hid h1) (Lib.hid h2) h3)
  · simp [execOp, hop, hm, hx, hrun, Result.andThen]
    exact hK' _ _ (hK w' (Lib.hid h1) (Lib.hid h2) h3)
theorem wpList_rangeF (hg : o.guard = none) (m : Operand) (hop : o.op = .range t m) (ht : P.underlying t = some (.map k e)) (B : Nat) (h : MapF w B f) (todo : Nat → Bool) (htodo : ∀ j v, f j = some v → todo j = true) (hm : a.eval m = .map (some B)) (R : Nat) (hR : R = w.heap.size)
    (hK : ∀ w', Hid (IterF w' B R f todo) → Hid (Kept noneB w w') → w'.heap.size = w.heap.size + 1 → wpList P ops Q rest (a.put o.dst (.pointer (some ⟨R, 0, none⟩))) w') : wpList P ops Q (o :: rest) a w := by
  subst hR
  refine wpList_plain hg fun K' hK' => ?_
  obtain ⟨w', hrun, h1, h2, h3⟩ := h.range (P := P) ht htodo
  unfold Oper.wp
  simp [execOp, hop, hm, hrun, Result.andThen]
  exact hK' _ _ (hK w' (Lib.hid h1) (Lib.hid h2) h3)
theorem wpList_nextF (hg : o.guard = none) (it : Operand) (hop : o.op = .next it false) (B R : Nat) (todo : Nat → Bool) (mkV : Nat → Value) (hf : ∀ j v, f j = some v → v = mkV j) (hit : a.eval it = .pointer (some ⟨R, 0, none⟩)) (h : IterF w B R f todo)
    (hDone : (∀ j v, f j = some v → todo j = false) → wpList P ops Q rest (a.put o.dst (.tuple #[.bool false])) w)
    (hMore : ∀ (j : Nat) (w' : World) (v : Value), f j = some v → todo j = true → Hid (IterF w' B R f (fun z => todo z && z != j)) → Hid (w'.rangeLeft B R < w.rangeLeft B R) → Hid (Kept (oneB R) w w') → w'.heap.size = w.heap.size →
      (Instr.entry (.pointer (some ⟨R, 0, none⟩))).run P w' = .ok (.tuple #[.int .i64 j, mkV j]) w' → wpList P ops Q rest (a.put o.dst (.tuple #[.bool true, .int .i64 j, mkV j])) w') : wpList P ops Q (o :: rest) a w := by
  refine wpList_plain hg fun K' hK' => ?_
  unfold Oper.wp
  rcases h.next (P := P) o.type with ⟨h0, hrun⟩ | ⟨j, v, w', hj, htj, hrun, hi, hlt, hkp, hsz, hen⟩
  · simp [execOp, hop, hit, hrun, Result.andThen]
    exact hK' _ _ (hDone h0)
  · obtain rfl := hf j v hj
    simp [execOp, hop, hit, hrun, Result.andThen]
    exact hK' _ _ (hMore j w' _ hj htj (Lib.hid hi) (Lib.hid hlt) (Lib.hid hkp) hsz hen)
end
end Go.Proofs.YtdjedimjhogdoaaGreatDoor.Mp
end
section
namespace Go.Proofs.YtdjedimjhogdoaaGreatDoor.Mp
open Go.ChangeShapes Go.WideShapes Go.ChangeAt Go.RowKit Go.Proofs.YtdjedimjhogdoaaGreatDoor.Base Go.Proofs.YtdjedimjhogdoaaGreatDoor.Byt Go.Lib
set_option linter.unusedVariables false

/-! ### a region in whatever order: by what holds throughout -/
def stillN (n : Nat) (listed : Array Bool) : Nat := ((List.range n).filter fun i => !listed.getD i true).length
theorem listed_get {listed : Array Bool} {i : Nat} (hi : i < listed.size) (j : Nat) (d : Bool) : (listed.setIfInBounds i true).getD j d = if j = i then true else listed.getD j d := by
  by_cases h : j = i
  · subst h; simp [hi]
  · simp [h, Array.getElem?_setIfInBounds_ne (Ne.symm h)]
theorem lt_of_unlisted {listed : Array Bool} {i : Nat} (h : listed.getD i true = false) : i < listed.size := by
  rcases Nat.lt_or_ge i listed.size with h' | h'
  · exact h'
  · simp [Array.getElem?_eq_none h'] at h
theorem wpAny_inv {P : Program} {md : Region.Mode} {ops : Array Oper} {Q : Exit → Act → World → Prop} (I : Array Bool → Act → World → Prop)
    (hstep : ∀ listed a w i, I listed a w → i ∈ Region.ready md ops listed → wpOp P ops Q i (I (listed.setIfInBounds i true)) a w)
    (hdone : ∀ listed a w, I listed a w → Region.ready md ops listed = [] → Q .normal a w) :
    ∀ (fuel : Nat) (listed : Array Bool) (a : Act) (w : World), stillN ops.size listed ≤ fuel → I listed a w → wpAny P md ops Q fuel listed a w := by
  intro fuel
  induction fuel with
  | zero =>
    intro listed a w hn hI
    have hr : Region.ready md ops listed = [] := by
      rw [List.eq_nil_iff_forall_not_mem]
      intro i hi
      have h1 := mem_ready.1 hi
      obtain ⟨o, ho, _⟩ := h1.2
      have h2 : i ∈ (List.range ops.size).filter fun i => !listed.getD i true := List.mem_filter.2 ⟨List.mem_range.2 (Array.getElem?_eq_some_iff.1 ho).1, by rw [h1.1]; rfl⟩
      have h3 : (List.range ops.size).filter (fun i => !listed.getD i true) = [] := List.eq_nil_of_length_eq_zero (by simpa [stillN] using hn)
      rw [h3] at h2
      cases h2
    exact ⟨hr, hdone _ _ _ hI hr⟩
  | succ fuel ih =>
    intro listed a w hn hI
    refine ⟨fun hr => hdone _ _ _ hI hr, fun i hi => ?_⟩
    refine wpOp_mono (fun a' w' h => ih _ _ _ ?_ h) (hstep _ _ _ _ hI hi)
    have h1 := mem_ready.1 hi
    obtain ⟨o, ho, _⟩ := h1.2
    have hlt := lt_of_unlisted h1.1
    have h2 : stillN ops.size (listed.setIfInBounds i true) < stillN ops.size listed := by
      unfold stillN
      refine filter_lt _ _ (fun x hx => ?_) i (by rw [h1.1]; rfl) (by rw [listed_get hlt, if_pos rfl]; rfl) _ (List.mem_range.2 (Array.getElem?_eq_some_iff.1 ho).1)
      rw [listed_get hlt] at hx
      split at hx
      · cases hx
      · exact hx
    omega
theorem all_listed {md : Region.Mode} {ops : Array Oper} {listed : Array Bool} (hs : listed.size = ops.size) (hd : ∀ i o, ops[i]? = some o → ∀ e ∈ o.after, Region.binds md e = true → e.on < i) (hr : Region.ready md ops listed = []) :
    ∀ n i, i < n → i < ops.size → listed.getD i false = true := by
  intro n
  induction n with
  | zero => intro i h; omega
  | succ n ih =>
    intro i h hi
    by_cases hin : i < n
    · exact ih i hin hi
    · obtain rfl : i = n := by omega
      cases hl : listed.getD i false with
      | true => rfl
      | false =>
        have h1 : listed.getD i true = false := by
          simp only [Array.getD_eq_getD_getElem?] at hl ⊢
          rw [Array.getElem?_eq_getElem (by omega)] at hl ⊢
          exact hl
        have : i ∈ Region.ready md ops listed := mem_ready.2 ⟨h1, ops[i], Array.getElem?_eq_getElem hi, fun e he hb => ih e.on (hd i _ (Array.getElem?_eq_getElem hi) e he hb) (by
          have := hd i _ (Array.getElem?_eq_getElem hi) e he hb
          omega)⟩
        rw [hr] at this
        cases this
theorem put_eval {a : Act} {d t : Nat} (v : Value) (hd : d < a.tmps.size) : (a.put (some d) v).eval (.tmp t) = if t = d then v else a.eval (.tmp t) := by
  show ((a.tmps.setIfInBounds d v).getD t undef) = _
  by_cases h : t = d
  · subst h; simp [hd]
  · rw [if_neg h]
    show _ = a.tmps.getD t undef
    simp [Array.getElem?_setIfInBounds_ne (Ne.symm h)]
theorem put_size (a : Act) (d : Option Nat) (v : Value) : (a.put d v).tmps.size = a.tmps.size := by
  cases d <;> simp [Act.put]
theorem put_defers (a : Act) (d : Option Nat) (v : Value) : (a.put d v).defers = a.defers := by
  cases d <;> rfl
theorem evalC (a : Act) (v : Value) : a.eval (.const v) = v := rfl
theorem getD_flip {listed : Array Bool} {i : Nat} (h : listed.getD i true = false) : listed.getD i false = false := by
  have := lt_of_unlisted h
  simp only [Array.getD_eq_getD_getElem?] at h ⊢
  rw [Array.getElem?_eq_getElem this] at h ⊢
  exact h
end Go.Proofs.YtdjedimjhogdoaaGreatDoor.Mp
end
section
namespace Go.Proofs.YtdjedimjhogdoaaGreatDoor.Mp
open Go.ChangeShapes Go.WideShapes Go.ChangeAt Go.RowKit Go.MapKept Go.Proofs.YtdjedimjhogdoaaGreatDoor.Base Go.Proofs.YtdjedimjhogdoaaGreatDoor.Byt Go.Proofs.YtdjedimjhogdoaaGreatDoor.Hp Go.Lib
set_option linter.unusedVariables false

theorem cellsAt {w : World} {g : Nat} {cs : Array Value} {e : TypeId} (h : w.heap[g]? = some (.cells cs e (0, 0))) (i : Nat) : w.cell? ⟨g, i, none⟩ = cs[i]? := by
  simp [World.cell?, h]
theorem cellsFrozen {w : World} {g : Nat} {cs : Array Value} {e : TypeId} (h : w.heap[g]? = some (.cells cs e (0, 0))) (i : Nat) : w.frozen? ⟨g, i, none⟩ = false := by
  simp [World.frozen?, h]
/-! ### rows of bytes -/
def bv (x : UInt8) : Value := .int .u8 (x.toNat : Int)
def RowB (w : World) (g : Nat) (bs : List UInt8) : Prop := w.heap[g]? = some (.cells (bs.map bv).toArray 5 (0, 0))
section
variable {w w' : World} {g : Nat} {bs : List UInt8}
theorem RowB.lt (h : RowB w g bs) : g < w.heap.size := (Array.getElem?_eq_some_iff.1 h).1
theorem RowB.kept {S : Nat → Prop} (h : RowB w g bs) (hk : Kept S w w') (hg : ¬ S g) : RowB w' g bs := hk.some_ h hg
theorem RowB.bat (h : RowB w g bs) : BAt w (some ⟨g, 0, none⟩) bs.length bs := fun _ => ⟨g, 0, rfl, fun i hi => by
  simp only [World.cell?, RowB] at h ⊢
  rw [h]
  simp [List.getD, hi, bv]⟩
theorem RowB.cell (h : RowB w g bs) (i : Nat) (hi : i < bs.length) : w.cell? ⟨g, i, none⟩ = some (.int .u8 ((bs.getD i 0).toNat : Int)) := by
  obtain ⟨b, o, he, hc⟩ := h.bat (by omega)
  cases he
  have := hc i hi
  rwa [Nat.zero_add] at this
theorem RowB.frozen (h : RowB w g bs) (i : Nat) : w.frozen? ⟨g, i, none⟩ = false := by
  simp only [World.frozen?, RowB] at h ⊢
  rw [h]
  rfl
theorem RowB.set (h : RowB w g bs) (i : Nat) (x : UInt8) : RowB (w.setCell ⟨g, i, none⟩ (.int .u8 (x.toNat : Int))) g (bs.set i x) := by
  unfold RowB at h ⊢
  rw [setCell_eq_setRow w g i _ _ _ _ h]
  rw [setRow_heap w g _ _ _ _ h]
  congr 2
  apply Array.toList_inj.1
  simp [List.map_set, bv]
theorem made_row (n : Nat) : madeCells #[Value.int .u8 0] n = ((List.replicate n (0 : UInt8)).map bv).toArray := by
  apply Array.toList_inj.1
  rw [toList_madeCells_one, List.map_replicate]
  rfl
theorem rowB_made (w : World) (n : Nat) : RowB (w.alloc (.cells (madeCells #[Value.int .u8 0] n) 5)) w.heap.size (List.replicate n 0) := by
  unfold RowB
  rw [made_row]
  exact heap_alloc_new w _
/-- a row that came by 'make' of the walk's law -/
theorem rowB_own {B n : Nat} (h : w.ownsRow B 5 1 (.slice (some ⟨g, 0, none⟩) n n) n (madeCells (Value.int .u8 0).cells (n * 1)).toList) : RowB w g (List.replicate n 0) := by
  rcases h.2 with ⟨h1, _⟩ | ⟨g', cap, cur, he, _, hb, _, _, hs, ht⟩
  · cases h1
  · cases he
    unfold RowB
    rw [hb]
    congr 2
    rw [← made_row]
    apply Array.toList_inj.1
    rw [List.take_of_length_le (by simp [hs])] at ht
    rw [ht, Nat.mul_one]
    rfl
end
/-- the run of copy between slices of bytes -/
theorem run_copyB {P : Program} {w : World} (dT sT ty elem : TypeId) (hu : P.underlying dT = some (.slice elem)) (hsz : (P.info? elem).map (·.size) = some 1) (dp sp : Option Addr) (dLen dCap sLen sCap : Nat)
    (g off : Nat) (bs : List UInt8) (hg : RowB w g bs) (cs : List UInt8) (hn : cs.length = Nat.min sLen dLen) (hpos : 0 < cs.length → dp = some ⟨g, off, none⟩) (hsrc : BAt w sp cs.length cs) (hfit : off + cs.length ≤ bs.length) :
    ∃ w', (Builtin.copy_ #[dT, sT] ty #[.slice dp dLen dCap, .slice sp sLen sCap]).run P w = .ok (goInt cs.length) w' ∧ RowB w' g (splice bs off cs) ∧ Kept (oneB g) w w' ∧ w'.heap.size = w.heap.size := by
  by_cases h0 : cs.length = 0
  · obtain rfl : cs = [] := List.eq_nil_of_length_eq_zero h0
    exact ⟨w, run_copy_none (P := P) w dT sT ty elem dp sp dLen dCap sLen sCap hu hsz (by simpa using hn.symm), by simpa [splice] using hg, Kept.refl _ _, rfl⟩
  · obtain rfl := hpos (by omega)
    obtain ⟨b, o, rfl, hc⟩ := hsrc (by omega)
    have hr := run_copy_row (P := P) w dT sT ty elem g off dLen dCap ⟨b, o, none⟩ sLen sCap _ _ (cs.map bv) hu hsz hg (by simpa using hn) (fun j v hj => by
      have hj1 : j < cs.length := by simpa using (List.getElem?_eq_some_iff.1 hj).1
      rw [add_plain, hc j hj1]
      rw [List.getElem?_map, List.getElem?_eq_getElem hj1] at hj
      rw [← hj]
      simp [List.getD, hj1, bv]) (by simpa using hfit) (fun v hv => by
      obtain ⟨x, _, rfl⟩ := List.mem_map.1 hv
      rfl)
    have e : ((bs.map bv).toArray.toList.take off ++ cs.map bv ++ (bs.map bv).toArray.toList.drop (off + (cs.map bv).length)).toArray = ((splice bs off cs).map bv).toArray := by
      simp [splice, List.map_take, List.map_drop]
    rw [e, List.length_map] at hr
    exact ⟨w.setRow g ((splice bs off cs).map bv).toArray, hr, setRow_heap w g _ _ _ _ hg, ⟨rfl, rfl, rfl, by simp [World.setRow], fun k hk hn => setRow_other w g k _ hn⟩, by simp [World.setRow]⟩
theorem run_copyS {P : Program} {w : World} (dT sT ty elem : TypeId) (hu : P.underlying dT = some (.slice elem)) (hsz : (P.info? elem).map (·.size) = some 1) (dp : Option Addr) (dLen dCap : Nat) (s : ByteArray)
    (g off : Nat) (bs : List UInt8) (hg : RowB w g bs) (cs : List UInt8) (hn : cs = s.data.toList.take dLen) (hpos : 0 < cs.length → dp = some ⟨g, off, none⟩) (hfit : off + cs.length ≤ bs.length) :
    ∃ w', (Builtin.copy_ #[dT, sT] ty #[.slice dp dLen dCap, .string s]).run P w = .ok (goInt cs.length) w' ∧ RowB w' g (splice bs off cs) ∧ Kept (oneB g) w w' ∧ w'.heap.size = w.heap.size := by
  have hsz' : s.data.toList.length = s.size := by simp
  have hl' : cs.length = min s.size dLen := by
    rw [hn, List.length_take]
    omega
  have hl : cs.length = Nat.min s.size dLen := hl'
  have hcs : ((s.data.toList.map fun x => Value.int .u8 (x.toNat : Int)).take (Nat.min s.size dLen)) = cs.map bv := by
    rw [← List.map_take, hn]
    show (s.data.toList.take (min s.size dLen)).map _ = _
    by_cases h : s.size ≤ dLen
    · rw [Nat.min_eq_left h, List.take_of_length_le (by omega), List.take_of_length_le (by omega)]
      rfl
    · rw [Nat.min_eq_right (by omega)]
      rfl
  obtain ⟨i, hi⟩ : ∃ i, P.info? elem = some i := by
    cases h : P.info? elem with
    | none => rw [h] at hsz; cases hsz
    | some i => exact ⟨i, rfl⟩
  by_cases h0 : cs.length = 0
  · obtain rfl : cs = [] := List.eq_nil_of_length_eq_zero h0
    refine ⟨w, ?_, by simpa [splice] using hg, Kept.refl _ _, rfl⟩
    have h1 : Nat.min s.size dLen = 0 := by simpa using hl.symm
    cases dp with
    | none => simp [Builtin.copy_, run_underlying hu, Builtin.lenOf, Builtin.firstCells, sizeOf, typeInfo, hi, h1]
    | some a => simp [Builtin.copy_, run_underlying hu, Builtin.lenOf, Builtin.firstCells, sizeOf, typeInfo, hi, h1, storeCells]
  · obtain rfl := hpos (by omega)
    have hst := run_storeCells_at P g off _ (cs.map bv) 0 _ w hg (by simpa using hfit) (fun v hv => by
      obtain ⟨x, _, rfl⟩ := List.mem_map.1 hv
      rfl)
    have e : ((bs.map bv).toArray.toList.take (off + 0) ++ cs.map bv ++ (bs.map bv).toArray.toList.drop (off + 0 + (cs.map bv).length)).toArray = ((splice bs off cs).map bv).toArray := by
      simp [splice, List.map_take, List.map_drop]
    rw [e] at hst
    refine ⟨w.setRow g ((splice bs off cs).map bv).toArray, ?_, setRow_heap w g _ _ _ _ hg, ⟨rfl, rfl, rfl, by simp [World.setRow], fun k hk hn => setRow_other w g k _ hn⟩, by simp [World.setRow]⟩
    simp [Builtin.copy_, run_underlying hu, Builtin.lenOf, Builtin.firstCells, sizeOf, typeInfo, hi, hcs, hst, hl]
section
variable {P : Program} {w : World} {ops : Array Oper} {rest : List Oper} {o : Oper} {a : Act} {Q : Exit → Act → World → Prop}
theorem wpList_copyB (hgd : o.guard = none) (d s : Operand) (dT sT : TypeId) (ho : o.op = .call { callee := .builtin .copy, args := #[d, s], argTypes := #[dT, sT] }) (elem : TypeId) (hu : P.underlying dT = some (.slice elem)) (hsz : (P.info? elem).map (·.size) = some 1)
    (dp sp : Option Addr) (dLen dCap sLen sCap : Nat) (hd : a.eval d = .slice dp dLen dCap) (hs : a.eval s = .slice sp sLen sCap)
    (g off : Nat) (bs : List UInt8) (hg : RowB w g bs) (cs : List UInt8) (hn : cs.length = Nat.min sLen dLen) (hpos : 0 < cs.length → dp = some ⟨g, off, none⟩) (hsrc : BAt w sp cs.length cs) (hfit : off + cs.length ≤ bs.length)
    (h : ∀ w', Hid (RowB w' g (splice bs off cs)) → Kept (oneB g) w w' → w'.heap.size = w.heap.size → wpList P ops Q rest (a.put o.dst (goInt cs.length)) w') : wpList P ops Q (o :: rest) a w := by
  refine wpList_plain hgd fun K hK => ?_
  obtain ⟨w', hrun, h1, h2, h3⟩ := run_copyB (P := P) dT sT o.type elem hu hsz dp sp dLen dCap sLen sCap g off bs hg cs hn hpos hsrc hfit
  unfold Oper.wp
  simp [execOp, ho, resolve, invoke, builtin, hd, hs, hrun, Result.andThen]
  exact hK _ _ (h w' (Lib.hid h1) h2 h3)
theorem wpList_copyS (hgd : o.guard = none) (d s : Operand) (dT sT : TypeId) (ho : o.op = .call { callee := .builtin .copy, args := #[d, s], argTypes := #[dT, sT] }) (elem : TypeId) (hu : P.underlying dT = some (.slice elem)) (hsz : (P.info? elem).map (·.size) = some 1)
    (dp : Option Addr) (dLen dCap : Nat) (str : ByteArray) (hd : a.eval d = .slice dp dLen dCap) (hs : a.eval s = .string str)
    (g off : Nat) (bs : List UInt8) (hg : RowB w g bs) (cs : List UInt8) (hn : cs = str.data.toList.take dLen) (hpos : 0 < cs.length → dp = some ⟨g, off, none⟩) (hfit : off + cs.length ≤ bs.length)
    (h : ∀ w', Hid (RowB w' g (splice bs off cs)) → Kept (oneB g) w w' → w'.heap.size = w.heap.size → wpList P ops Q rest (a.put o.dst (goInt cs.length)) w') : wpList P ops Q (o :: rest) a w := by
  refine wpList_plain hgd fun K hK => ?_
  obtain ⟨w', hrun, h1, h2, h3⟩ := run_copyS (P := P) dT sT o.type elem hu hsz dp dLen dCap str g off bs hg cs hn hpos hfit
  unfold Oper.wp
  simp [execOp, ho, resolve, invoke, builtin, hd, hs, hrun, Result.andThen]
  exact hK _ _ (h w' (Lib.hid h1) h2 h3)
/-- the same as one step of a region that draws its order -/
theorem step_copyB {K : Act → World → Prop} {E : Prop} (hgd : o.guard = none) (d s : Operand) (dT sT : TypeId) (ho : o.op = .call { callee := .builtin .copy, args := #[d, s], argTypes := #[dT, sT] }) (elem : TypeId) (hu : P.underlying dT = some (.slice elem)) (hsz : (P.info? elem).map (·.size) = some 1)
    (dp sp : Option Addr) (dLen dCap sLen sCap : Nat) (hd : a.eval d = .slice dp dLen dCap) (hs : a.eval s = .slice sp sLen sCap)
    (g off : Nat) (bs : List UInt8) (hg : RowB w g bs) (cs : List UInt8) (hn : cs.length = Nat.min sLen dLen) (hpos : 0 < cs.length → dp = some ⟨g, off, none⟩) (hsrc : BAt w sp cs.length cs) (hfit : off + cs.length ≤ bs.length)
    (h : ∀ w', Hid (RowB w' g (splice bs off cs)) → Kept (oneB g) w w' → w'.heap.size = w.heap.size → K (a.put o.dst (goInt cs.length)) w') :
    if Region.wanted o (yielded ops a.tmps) = true then Oper.wp P o a w K Q else E := by
  have hw : Region.wanted o (yielded ops a.tmps) = true := by simp [Region.wanted, hgd]
  rw [if_pos hw]
  obtain ⟨w', hrun, h1, h2, h3⟩ := run_copyB (P := P) dT sT o.type elem hu hsz dp sp dLen dCap sLen sCap g off bs hg cs hn hpos hsrc hfit
  unfold Oper.wp
  simp [execOp, ho, resolve, invoke, builtin, hd, hs, hrun, Result.andThen]
  exact h w' (Lib.hid h1) h2 h3
theorem step_copyS {K : Act → World → Prop} {E : Prop} (hgd : o.guard = none) (d s : Operand) (dT sT : TypeId) (ho : o.op = .call { callee := .builtin .copy, args := #[d, s], argTypes := #[dT, sT] }) (elem : TypeId) (hu : P.underlying dT = some (.slice elem)) (hsz : (P.info? elem).map (·.size) = some 1)
    (dp : Option Addr) (dLen dCap : Nat) (str : ByteArray) (hd : a.eval d = .slice dp dLen dCap) (hs : a.eval s = .string str)
    (g off : Nat) (bs : List UInt8) (hg : RowB w g bs) (cs : List UInt8) (hn : cs = str.data.toList.take dLen) (hpos : 0 < cs.length → dp = some ⟨g, off, none⟩) (hfit : off + cs.length ≤ bs.length)
    (h : ∀ w', Hid (RowB w' g (splice bs off cs)) → Kept (oneB g) w w' → w'.heap.size = w.heap.size → K (a.put o.dst (goInt cs.length)) w') :
    if Region.wanted o (yielded ops a.tmps) = true then Oper.wp P o a w K Q else E := by
  have hw : Region.wanted o (yielded ops a.tmps) = true := by simp [Region.wanted, hgd]
  rw [if_pos hw]
  obtain ⟨w', hrun, h1, h2, h3⟩ := run_copyS (P := P) dT sT o.type elem hu hsz dp dLen dCap str g off bs hg cs hn hpos hfit
  unfold Oper.wp
  simp [execOp, ho, resolve, invoke, builtin, hd, hs, hrun, Result.andThen]
  exact h w' (Lib.hid h1) h2 h3
end

/-! ### the fields in a map -/
def partV (r : Nat → Nat) (i : Nat) : Value := .agg #[.int .i64 (atF i), .slice (some ⟨r i, 0, none⟩) (wideF i) (wideF i)]
def partF (r : Nat → Nat) : Nat → Option Value := fun i => if i < 11 then some (partV r i) else none
structure PartsAt (w : World) (lo B : Nat) (r : Nat → Nat) (own : Nat → List UInt8) : Prop where
  map : MapF w B (partF r)
  row : ∀ i, i < 11 → RowB w (r i) (own i)
  fit : Fits own
  inj : ∀ i j, i < 11 → j < 11 → r i = r j → i = j
  lo : lo ≤ B ∧ ∀ i, i < 11 → lo ≤ r i
section
variable {w w' : World} {lo B : Nat} {r : Nat → Nat} {own : Nat → List UInt8}
theorem PartsAt.kept {S : Nat → Prop} (h : PartsAt w lo B r own) (hk : Kept S w w') (hB : ¬ S B) (hr : ∀ i, i < 11 → ¬ S (r i)) : PartsAt w' lo B r own :=
  ⟨h.map.kept hk hB, fun i hi => (h.row i hi).kept hk (hr i hi), h.fit, h.inj, h.lo⟩
theorem PartsAt.kept0 (h : PartsAt w lo B r own) (hk : Kept noneB w w') : PartsAt w' lo B r own := h.kept hk id fun _ _ => id
theorem PartsAt.offB (h : PartsAt w lo B r own) {i : Nat} (hi : i < 11) : r i ≠ B := fun e => by
  obtain ⟨es, clock, hb, _⟩ := h.map
  have := h.row i hi
  unfold RowB at this
  rw [e, hb] at this
  cases this
theorem PartsAt.bat (h : PartsAt w lo B r own) {i : Nat} (hi : i < 11) : BAt w (some ⟨r i, 0, none⟩) (wideF i) (own i) := by
  have := (h.row i hi).bat
  rwa [h.fit i] at this
/-- one field is written -/
theorem PartsAt.wrote (h : PartsAt w lo B r own) {i : Nat} (hi : i < 11) (hk : Kept (oneB (r i)) w w') {l : List UInt8} (hl : l.length = wideF i) (hr : RowB w' (r i) l) : PartsAt w' lo B r (upd own i l) :=
  ⟨h.map.kept hk (fun e => h.offB hi (Eq.symm e)), fun j hj => by
    by_cases hji : j = i
    · subst hji; rw [upd_same]; exact hr
    · rw [upd_other _ _ hji]
      exact (h.row j hj).kept hk (fun e => hji (h.inj j i hj hi e)), h.fit.upd hl, h.inj, h.lo⟩
end
end Go.Proofs.YtdjedimjhogdoaaGreatDoor.Mp
end
section
namespace Go.Proofs.YtdjedimjhogdoaaGreatDoor.Head
open Go.ChangeShapes Go.WideShapes Go.ChangeAt Go.RowKit Go.MapKept Go.Proofs.YtdjedimjhogdoaaGreatDoor.Base Go.Proofs.YtdjedimjhogdoaaGreatDoor.Byt Go.Proofs.YtdjedimjhogdoaaGreatDoor.Txt Go.Proofs.YtdjedimjhogdoaaGreatDoor.Hp Go.Proofs.YtdjedimjhogdoaaGreatDoor.Mp Go.Lib
set_option linter.unusedVariables false

/-- the operations of a function's second statement -/
def opsOf2 (f : Func) : Array Oper :=
  match f.body with
  | some (.seq _ (.region _ ops _)) => ops
  | some (.seq _ (.seq (.region _ ops _) _)) => ops
  | _ => #[]
noncomputable def blankOps : Array Oper := opsOf2 Tryz.f95
theorem op_map : ∃ o, blankOps[0]? = some o ∧ o.op = .makeMap 121 none ∧ o.dst = some 1 ∧ o.guard = none := ⟨_, rfl, rfl, rfl, rfl⟩
theorem op_make : ∀ i, i < 11 → ∃ o, blankOps[1 + 3 * i]? = some o ∧ o.op = .makeSlice 22 (.const (.int .i64 (wideF i))) (.const (.int .i64 (wideF i))) ∧ o.dst = some (2 + 2 * i) ∧ o.guard = none := by
  intro i hi
  rcases cases11 hi with rfl | rfl | rfl | rfl | rfl | rfl | rfl | rfl | rfl | rfl | rfl <;> exact ⟨_, rfl, rfl, rfl, rfl⟩
theorem op_build : ∀ i, i < 11 → ∃ o, blankOps[2 + 3 * i]? = some o ∧ o.op = .build 124 #[(0, .const (.int .i64 (atF i))), (1, .tmp (2 + 2 * i))] ∧ o.dst = some (3 + 2 * i) ∧ o.guard = none ∧ o.after = #[⟨1 + 3 * i, .data⟩] := by
  intro i hi
  rcases cases11 hi with rfl | rfl | rfl | rfl | rfl | rfl | rfl | rfl | rfl | rfl | rfl <;> exact ⟨_, rfl, rfl, rfl, rfl, rfl⟩
theorem op_ins : ∀ i, i < 11 → ∃ o, blankOps[3 + 3 * i]? = some o ∧ o.op = .insert 121 (.tmp 1) (.const (.int .i64 (i : Int))) (.tmp (3 + 2 * i)) ∧ o.dst = none ∧ o.guard = none ∧ o.after = #[⟨0, .data⟩, ⟨2 + 3 * i, .data⟩] := by
  intro i hi
  rcases cases11 hi with rfl | rfl | rfl | rfl | rfl | rfl | rfl | rfl | rfl | rfl | rfl <;> exact ⟨_, rfl, rfl, rfl, rfl, rfl⟩
theorem op_move : ∃ o, blankOps[34]? = some o ∧ o.op = .move (.tmp 1) ∧ o.dst = some 24 ∧ o.guard = none ∧ o.after[0]? = some ⟨0, .data⟩ := ⟨_, rfl, rfl, rfl, rfl, rfl⟩
theorem op_assign : ∃ o, blankOps[35]? = some o ∧ o.op = .assign (.tmp 24) ∧ o.dst = some 0 ∧ o.guard = none ∧ o.after[0]? = some ⟨34, .data⟩ := ⟨_, rfl, rfl, rfl, rfl, rfl⟩
theorem op_size : blankOps.size = 36 := rfl
theorem op_deps : ∀ i o, blankOps[i]? = some o → ∀ e ∈ o.after, Region.binds .any e = true → e.on < i := by
  have h : (blankOps.toList.zipIdx.all fun x => x.1.after.all fun e => decide (e.on < x.2)) = true := by decide +kernel
  intro i o ho e he _
  rw [List.all_eq_true] at h
  have h1 := h (o, i) (by rw [List.mem_iff_getElem?]; exact ⟨i, by simp [ho]⟩)
  have h2 := Array.all_eq_true_iff_forall_mem.1 h1 e he
  simpa using h2

/-- what holds while the literal is laid -/
structure BI (w0 : World) (listed : Array Bool) (a : Act) (w : World) (B : Nat) (r : Nat → Nat) : Prop where
  ls : listed.size = 36
  ts : a.tmps.size = 25
  df : a.defers = []
  kept : Kept noneB w0 w
  m0 : listed.getD 0 false = true → a.eval (.tmp 1) = .map (some B) ∧ w0.heap.size ≤ B ∧ MapF w B (fun i => if i < 11 ∧ listed.getD (3 + 3 * i) false = true then some (partV r i) else none)
  mks : ∀ i, i < 11 → listed.getD (1 + 3 * i) false = true → a.eval (.tmp (2 + 2 * i)) = .slice (some ⟨r i, 0, none⟩) (wideF i) (wideF i) ∧ w0.heap.size ≤ r i ∧ RowB w (r i) (List.replicate (wideF i) 0)
  bd : ∀ i, i < 11 → listed.getD (2 + 3 * i) false = true → a.eval (.tmp (3 + 2 * i)) = partV r i ∧ listed.getD (1 + 3 * i) false = true
  ins : ∀ i, i < 11 → listed.getD (3 + 3 * i) false = true → listed.getD (2 + 3 * i) false = true ∧ listed.getD 0 false = true
  inj : ∀ i j, i < 11 → j < 11 → listed.getD (1 + 3 * i) false = true → listed.getD (1 + 3 * j) false = true → r i = r j → i = j
  mv : listed.getD 34 false = true → listed.getD 0 false = true ∧ a.eval (.tmp 24) = .map (some B)
  asg : listed.getD 35 false = true → listed.getD 34 false = true ∧ a.eval (.tmp 0) = .map (some B)
theorem build_part (w : World) (i : Nat) (x : Value) (hx : ∃ p l c, x = .slice p l c) : (Instr.build 124 #[(0, .int .i64 (atF i)), (1, x)]).run Tryz.prog w = .ok (.agg #[.int .i64 (atF i), x]) w := by
  obtain ⟨p, l, c, rfl⟩ := hx
  kernel_rfl
section
variable {w0 w : World} {listed : Array Bool} {a : Act} {B : Nat} {r : Nat → Nat} {Q : Exit → Act → World → Prop}
def BX (w0 : World) (listed : Array Bool) (a : Act) (w : World) : Prop := ∃ B r, BI w0 listed a w B r
theorem step_map (h : BI w0 listed a w B r) (hr : 0 ∈ Region.ready .any blankOps listed) : wpOp Tryz.prog blankOps Q 0 (BX w0 (listed.setIfInBounds 0 true)) a w := by
  have hun := (mem_ready.1 hr).1
  have hf := getD_flip hun
  have hlt := lt_of_unlisted hun
  obtain ⟨o, ho, hop, hd, hg⟩ := op_map
  refine wpOp_step ho fun K hK => ?_
  rw [if_pos (by simp [Region.wanted, hg])]
  have hrun := @run_makeMap Tryz.prog 121 w
  unfold Oper.wp
  simp [execOp, hop, hrun, Result.andThen]
  rw [Oper.upon_value, hd]
  refine hK _ _ ⟨w.heap.size, r, ?_⟩
  have hsz := h.ts
  have hkA : Kept noneB w (w.alloc (.map #[] 0)) := (Kept.refl _ _).alloc _
  have ev : ∀ t : Nat, t ≠ 1 → (a.put (some 1) (.map (some w.heap.size))).eval (.tmp t) = a.eval (.tmp t) := fun t ht => by rw [put_eval _ (by omega), if_neg ht]
  have no : ∀ i, i < 11 → listed.getD (3 + 3 * i) false = false := fun i hi => by
    cases hc : listed.getD (3 + 3 * i) false with
    | false => rfl
    | true => have := (h.ins i hi hc).2; rw [hf] at this; cases this
  refine ⟨by simpa using h.ls, by rw [put_size]; exact hsz, by rw [put_defers]; exact h.df, h.kept.trans hkA, fun _ => ⟨by rw [put_eval _ (by omega), if_pos rfl], h.kept.size, ?_⟩, ?_, ?_, ?_, ?_, ?_, ?_⟩
  · have e : (fun i => if i < 11 ∧ (listed.setIfInBounds 0 true).getD (3 + 3 * i) false = true then some (partV r i) else none) = fun _ => (none : Option Value) := by
      funext i
      rw [listed_get hlt, if_neg (show ¬ 3 + 3 * i = 0 by omega)]
      by_cases hi : i < 11
      · rw [no i hi]; simp
      · simp [hi]
    rw [e]
    exact mapF_made w
  · intro i hi hl
    rw [listed_get hlt, if_neg (show ¬ 1 + 3 * i = 0 by omega)] at hl
    obtain ⟨h1, h2, h3⟩ := h.mks i hi hl
    exact ⟨by rw [ev _ (by omega)]; exact h1, h2, h3.kept hkA id⟩
  · intro i hi hl
    rw [listed_get hlt, if_neg (show ¬ 2 + 3 * i = 0 by omega)] at hl
    obtain ⟨h1, h2⟩ := h.bd i hi hl
    exact ⟨by rw [ev _ (by omega)]; exact h1, by rw [listed_get hlt, if_neg (by omega)]; exact h2⟩
  · intro i hi hl
    rw [listed_get hlt, if_neg (show ¬ 3 + 3 * i = 0 by omega), no i hi] at hl
    cases hl
  · intro i j hi hj h1 h2
    rw [listed_get hlt, if_neg (show ¬ 1 + 3 * i = 0 by omega)] at h1
    rw [listed_get hlt, if_neg (show ¬ 1 + 3 * j = 0 by omega)] at h2
    exact h.inj i j hi hj h1 h2
  · intro hl
    rw [listed_get hlt, if_neg (by omega)] at hl
    have := (h.mv hl).1
    rw [hf] at this
    cases this
  · intro hl
    rw [listed_get hlt, if_neg (by omega)] at hl
    have := (h.mv (h.asg hl).1).1
    rw [hf] at this
    cases this
theorem step_make (h : BI w0 listed a w B r) {k : Nat} (hk : k < 11) (hr : 1 + 3 * k ∈ Region.ready .any blankOps listed) : wpOp Tryz.prog blankOps Q (1 + 3 * k) (BX w0 (listed.setIfInBounds (1 + 3 * k) true)) a w := by
  have hun := (mem_ready.1 hr).1
  have hf := getD_flip hun
  have hlt := lt_of_unlisted hun
  have hw := wide_pos hk
  obtain ⟨o, ho, hop, hd, hg⟩ := op_make k hk
  obtain ⟨i0, hi0, hz0, hz1, hz2⟩ := info_parts infoU8
  refine wpOp_step ho fun K hK => ?_
  rw [if_pos (by simp [Region.wanted, hg])]
  have hrun := run_make (P := Tryz.prog) w 22 5 i0 (.int .u8 0) Tryz.underlying22 hi0 hz0 .i64 .i64 (wideF k) (wideF k) (by omega) (by omega) (by rw [hz2]; omega) (by omega)
  rw [hz1, Nat.mul_one, Int.toNat_natCast, show (Value.int .u8 0).cells = #[Value.int .u8 0] from rfl] at hrun
  unfold Oper.wp
  simp [execOp, hop, Act.eval, hrun, Result.andThen]
  rw [Oper.upon_value, hd]
  refine hK _ _ ⟨B, fun i => if i = k then w.heap.size else r i, ?_⟩
  have hsz := h.ts
  have hkA : Kept noneB w (w.alloc (.cells (madeCells #[Value.int .u8 0] (wideF k)) 5)) := (Kept.refl _ _).alloc _
  have ev : ∀ t : Nat, t ≠ 2 + 2 * k → (a.put (some (2 + 2 * k)) (.slice (some ⟨w.heap.size, 0, none⟩) (wideF k) (wideF k))).eval (.tmp t) = a.eval (.tmp t) := fun t ht => by rw [put_eval _ (by omega), if_neg ht]
  have ls : ∀ j, j ≠ 1 + 3 * k → (listed.setIfInBounds (1 + 3 * k) true).getD j false = listed.getD j false := fun j hj => by rw [listed_get hlt, if_neg hj]
  have nob : listed.getD (2 + 3 * k) false = false := by
    cases hc : listed.getD (2 + 3 * k) false with
    | false => rfl
    | true => have := (h.bd k hk hc).2; rw [hf] at this; cases this
  have noi : listed.getD (3 + 3 * k) false = false := by
    cases hc : listed.getD (3 + 3 * k) false with
    | false => rfl
    | true => have := (h.ins k hk hc).1; rw [nob] at this; cases this
  have pv : ∀ i, i ≠ k → partV (fun i => if i = k then w.heap.size else r i) i = partV r i := fun i hi => by simp only [partV, if_neg hi]
  refine ⟨by simpa using h.ls, by rw [put_size]; exact hsz, by rw [put_defers]; exact h.df, h.kept.trans hkA, ?_, ?_, ?_, ?_, ?_, ?_, ?_⟩
  · intro hl
    rw [ls 0 (by omega)] at hl
    obtain ⟨h1, h2, h3⟩ := h.m0 hl
    refine ⟨by rw [ev _ (by omega)]; exact h1, h2, ?_⟩
    have e : (fun i => if i < 11 ∧ (listed.setIfInBounds (1 + 3 * k) true).getD (3 + 3 * i) false = true then some (partV (fun i => if i = k then w.heap.size else r i) i) else none) = fun i => if i < 11 ∧ listed.getD (3 + 3 * i) false = true then some (partV r i) else none := by
      funext i
      rw [ls _ (by omega)]
      by_cases hik : i = k
      · subst hik; rw [noi]; simp
      · rw [pv i hik]
    rw [e]
    exact h3.kept hkA id
  · intro i hi hl
    by_cases hik : i = k
    · subst hik
      refine ⟨by rw [put_eval _ (by omega), if_pos rfl, if_pos rfl], by rw [if_pos rfl]; exact h.kept.size, ?_⟩
      rw [if_pos rfl]
      exact rowB_made w (wideF i)
    · rw [ls _ (by omega)] at hl
      obtain ⟨h1, h2, h3⟩ := h.mks i hi hl
      rw [if_neg hik]
      exact ⟨by rw [ev _ (by omega)]; exact h1, h2, h3.kept hkA id⟩
  · intro i hi hl
    rw [ls _ (by omega)] at hl
    by_cases hik : i = k
    · subst hik; rw [nob] at hl; cases hl
    · obtain ⟨h1, h2⟩ := h.bd i hi hl
      exact ⟨by rw [ev _ (by omega), pv i hik]; exact h1, by rw [ls _ (by omega)]; exact h2⟩
  · intro i hi hl
    rw [ls _ (by omega)] at hl
    rw [ls _ (by omega), ls _ (by omega)]
    exact h.ins i hi hl
  · intro i j hi hj h1 h2
    by_cases hik : i = k
    · by_cases hjk : j = k
      · intro _; rw [hik, hjk]
      · rw [if_pos hik, if_neg hjk]
        rw [ls _ (by omega)] at h2
        have := (h.mks j hj h2).2.2.lt
        intro e; omega
    · rw [ls _ (by omega)] at h1
      by_cases hjk : j = k
      · rw [if_neg hik, if_pos hjk]
        have := (h.mks i hi h1).2.2.lt
        intro e; omega
      · rw [if_neg hik, if_neg hjk]
        rw [ls _ (by omega)] at h2
        exact h.inj i j hi hj h1 h2
  · intro hl
    rw [ls _ (by omega)] at hl
    rw [ls _ (by omega), ev _ (by omega)]
    exact h.mv hl
  · intro hl
    rw [ls _ (by omega)] at hl
    rw [ls _ (by omega), ev _ (by omega)]
    exact h.asg hl
theorem step_build (h : BI w0 listed a w B r) {k : Nat} (hk : k < 11) (hr : 2 + 3 * k ∈ Region.ready .any blankOps listed) : wpOp Tryz.prog blankOps Q (2 + 3 * k) (BX w0 (listed.setIfInBounds (2 + 3 * k) true)) a w := by
  obtain ⟨hun, o', ho', hdep⟩ := mem_ready.1 hr
  have hlt := lt_of_unlisted hun
  have hf := getD_flip hun
  obtain ⟨o, ho, hop, hd, hg, haf⟩ := op_build k hk
  obtain rfl : o = o' := Option.some.inj (ho.symm.trans ho')
  have hl1 : listed.getD (1 + 3 * k) false = true := hdep ⟨1 + 3 * k, .data⟩ (by rw [haf]; simp) rfl
  obtain ⟨hmk, _, _⟩ := h.mks k hk hl1
  refine wpOp_step ho fun K hK => ?_
  rw [if_pos (by simp [Region.wanted, hg])]
  have hrun := build_part w k (.slice (some ⟨r k, 0, none⟩) (wideF k) (wideF k)) ⟨_, _, _, rfl⟩
  have hmk' : a.tmps.getD (2 + 2 * k) undef = .slice (some ⟨r k, 0, none⟩) (wideF k) (wideF k) := hmk
  unfold Oper.wp
  simp only [execOp, hop, List.map_toArray, List.map_cons, List.map_nil, Act.eval, hmk', Sem.run_bind, hrun, Result.andThen, Oper.upon]
  rw [hd]
  refine hK _ _ ⟨B, r, ?_⟩
  have hsz := h.ts
  have ev : ∀ t : Nat, t ≠ 3 + 2 * k → (a.put (some (3 + 2 * k)) (partV r k)).eval (.tmp t) = a.eval (.tmp t) := fun t ht => by rw [put_eval _ (by omega), if_neg ht]
  have ls : ∀ j, j ≠ 2 + 3 * k → (listed.setIfInBounds (2 + 3 * k) true).getD j false = listed.getD j false := fun j hj => by rw [listed_get hlt, if_neg hj]
  show BI w0 _ (a.put (some (3 + 2 * k)) (partV r k)) w B r
  refine ⟨by simpa using h.ls, by rw [put_size]; exact hsz, by rw [put_defers]; exact h.df, h.kept, ?_, ?_, ?_, ?_, ?_, ?_, ?_⟩
  · intro hl
    rw [ls 0 (by omega)] at hl
    obtain ⟨h1, h2, h3⟩ := h.m0 hl
    refine ⟨by rw [ev _ (by omega)]; exact h1, h2, ?_⟩
    have e : (fun i => if i < 11 ∧ (listed.setIfInBounds (2 + 3 * k) true).getD (3 + 3 * i) false = true then some (partV r i) else none) = fun i => if i < 11 ∧ listed.getD (3 + 3 * i) false = true then some (partV r i) else none := by
      funext i
      rw [ls _ (by omega)]
    rw [e]
    exact h3
  · intro i hi hl
    rw [ls _ (by omega)] at hl
    rw [ev _ (by omega)]
    exact h.mks i hi hl
  · intro i hi hl
    by_cases hik : i = k
    · subst hik
      exact ⟨by rw [put_eval _ (by omega), if_pos rfl], by rw [ls _ (by omega)]; exact hl1⟩
    · rw [ls _ (by omega)] at hl
      obtain ⟨h1, h2⟩ := h.bd i hi hl
      exact ⟨by rw [ev _ (by omega)]; exact h1, by rw [ls _ (by omega)]; exact h2⟩
  · intro i hi hl
    rw [ls _ (by omega)] at hl
    obtain ⟨h1, h2⟩ := h.ins i hi hl
    refine ⟨?_, by rw [ls _ (by omega)]; exact h2⟩
    rw [listed_get hlt]
    split
    · rfl
    · exact h1
  · intro i j hi hj h1 h2
    rw [ls _ (by omega)] at h1 h2
    exact h.inj i j hi hj h1 h2
  · intro hl
    rw [ls _ (by omega)] at hl
    rw [ls _ (by omega), ev _ (by omega)]
    exact h.mv hl
  · intro hl
    rw [ls _ (by omega)] at hl
    rw [ls _ (by omega), ev _ (by omega)]
    exact h.asg hl
theorem step_ins (h : BI w0 listed a w B r) {k : Nat} (hk : k < 11) (hr : 3 + 3 * k ∈ Region.ready .any blankOps listed) : wpOp Tryz.prog blankOps Q (3 + 3 * k) (BX w0 (listed.setIfInBounds (3 + 3 * k) true)) a w := by
  obtain ⟨hun, o', ho', hdep⟩ := mem_ready.1 hr
  have hlt := lt_of_unlisted hun
  have hf := getD_flip hun
  obtain ⟨o, ho, hop, hd, hg, haf⟩ := op_ins k hk
  obtain rfl : o = o' := Option.some.inj (ho.symm.trans ho')
  have hl0 : listed.getD 0 false = true := hdep ⟨0, .data⟩ (by rw [haf]; simp) rfl
  have hl2 : listed.getD (2 + 3 * k) false = true := hdep ⟨2 + 3 * k, .data⟩ (by rw [haf]; simp) rfl
  obtain ⟨hm1, hm2, hm3⟩ := h.m0 hl0
  obtain ⟨hb1, _⟩ := h.bd k hk hl2
  refine wpOp_step ho fun K hK => ?_
  rw [if_pos (by simp [Region.wanted, hg])]
  obtain ⟨w', hrun, hmap, hkp, hs⟩ := hm3.put (P := Tryz.prog) Tryz.underlying121 Tryz.underlying125 k (partV r k) (by rw [hf]; simp)
  have hrun' : (Instr.mapUpdate 121 (.map (some B)) (.int .i64 (k : Int)) (partV r k)).run Tryz.prog w = .ok () w' := hrun
  unfold Oper.wp
  simp [execOp, hop, hm1, hb1, evalC, hrun', Result.andThen]
  first | rw [Oper.upon_value, hd] | rw [Oper.upon_skip, hd]
  refine hK _ _ ⟨B, r, ?_⟩
  have hsz := h.ts
  have ls : ∀ j, j ≠ 3 + 3 * k → (listed.setIfInBounds (3 + 3 * k) true).getD j false = listed.getD j false := fun j hj => by rw [listed_get hlt, if_neg hj]
  have hB : B < w.heap.size := hm3.lt
  have hkp0 : Kept noneB w0 w' := h.kept.then hkp (fun i hi => by
    have : i = B := hi
    omega)
  refine ⟨by simpa using h.ls, hsz, h.df, hkp0, ?_, ?_, ?_, ?_, ?_, ?_, ?_⟩
  · intro _
    refine ⟨hm1, hm2, ?_⟩
    have e : (fun i => if i < 11 ∧ (listed.setIfInBounds (3 + 3 * k) true).getD (3 + 3 * i) false = true then some (partV r i) else none) = fun y => if y = k then some (partV r k) else (if y < 11 ∧ listed.getD (3 + 3 * y) false = true then some (partV r y) else none) := by
      funext i
      by_cases hik : i = k
      · subst hik
        rw [listed_get hlt, if_pos rfl, if_pos ⟨hk, rfl⟩, if_pos rfl]
      · rw [ls _ (by omega), if_neg hik]
    rw [e]
    exact hmap
  · intro i hi hl
    rw [ls _ (by omega)] at hl
    obtain ⟨h1, h2, h3⟩ := h.mks i hi hl
    refine ⟨h1, h2, h3.kept hkp (fun e => ?_)⟩
    have e : r i = B := e
    obtain ⟨es, clock, hb, _⟩ := hm3
    unfold RowB at h3
    rw [e, hb] at h3
    cases h3
  · intro i hi hl
    rw [ls _ (by omega)] at hl
    rw [ls _ (by omega)]
    exact h.bd i hi hl
  · intro i hi hl
    rw [ls _ (by omega), ls _ (by omega)]
    by_cases hik : i = k
    · subst hik; exact ⟨hl2, hl0⟩
    · rw [ls _ (by omega)] at hl
      exact h.ins i hi hl
  · intro i j hi hj h1 h2
    rw [ls _ (by omega)] at h1 h2
    exact h.inj i j hi hj h1 h2
  · intro hl
    rw [ls _ (by omega)] at hl
    rw [ls _ (by omega)]
    exact h.mv hl
  · intro hl
    rw [ls _ (by omega)] at hl
    rw [ls _ (by omega)]
    exact h.asg hl
theorem step_last (h : BI w0 listed a w B r) {k d : Nat} {s : Nat} {o : Oper} (hr : k ∈ Region.ready .any blankOps listed) (ho : blankOps[k]? = some o) (hop : o.op = .move (.tmp s) ∨ o.op = .assign (.tmp s)) (hd : o.dst = some d) (hg : o.guard = none)
    (hc : (k = 34 ∧ d = 24 ∧ s = 1 ∧ listed.getD 0 false = true) ∨ (k = 35 ∧ d = 0 ∧ s = 24 ∧ listed.getD 34 false = true)) : wpOp Tryz.prog blankOps Q k (BX w0 (listed.setIfInBounds k true)) a w := by
  obtain ⟨hun, _⟩ := mem_ready.1 hr
  have hlt := lt_of_unlisted hun
  have hf := getD_flip hun
  have hs : a.eval (.tmp s) = .map (some B) := by
    rcases hc with ⟨_, _, rfl, h0⟩ | ⟨_, _, rfl, h0⟩
    · exact (h.m0 h0).1
    · exact (h.mv h0).2
  refine wpOp_step ho fun K hK => ?_
  rw [if_pos (by simp [Region.wanted, hg])]
  unfold Oper.wp
  rcases hop with hop | hop
  all_goals
    simp [execOp, hop, hs]
    rw [Oper.upon_value, hd]
    refine hK _ _ ⟨B, r, ?_⟩
    have hsz := h.ts
    have ev : ∀ t : Nat, t ≠ d → (a.put (some d) (.map (some B))).eval (.tmp t) = a.eval (.tmp t) := fun t ht => by rw [put_eval _ (by omega), if_neg ht]
    have ed : (a.put (some d) (.map (some B))).eval (.tmp d) = .map (some B) := by rw [put_eval _ (by omega), if_pos rfl]
    have ls : ∀ j, j ≠ k → (listed.setIfInBounds k true).getD j false = listed.getD j false := fun j hj => by rw [listed_get hlt, if_neg hj]
    refine ⟨by simpa using h.ls, by rw [put_size]; exact hsz, by rw [put_defers]; exact h.df, h.kept, ?_, ?_, ?_, ?_, ?_, ?_, ?_⟩
    · intro hl
      rw [ls 0 (by omega)] at hl
      obtain ⟨h1, h2, h3⟩ := h.m0 hl
      refine ⟨by rw [ev _ (by omega)]; exact h1, h2, ?_⟩
      have e : (fun i => if i < 11 ∧ (listed.setIfInBounds k true).getD (3 + 3 * i) false = true then some (partV r i) else none) = fun i => if i < 11 ∧ listed.getD (3 + 3 * i) false = true then some (partV r i) else none := by
        funext i
        by_cases hi : i < 11
        · rw [ls _ (by omega)]
        · simp [hi]
      rw [e]
      exact h3
    · intro i hi hl
      rw [ls _ (by omega)] at hl
      rw [ev _ (by omega)]
      exact h.mks i hi hl
    · intro i hi hl
      rw [ls _ (by omega)] at hl
      rw [ev _ (by omega), ls _ (by omega)]
      exact h.bd i hi hl
    · intro i hi hl
      rw [ls _ (by omega)] at hl
      rw [ls _ (by omega), ls _ (by omega)]
      exact h.ins i hi hl
    · intro i j hi hj h1 h2
      rw [ls _ (by omega)] at h1 h2
      exact h.inj i j hi hj h1 h2
    · intro hl
      rcases hc with ⟨rfl, rfl, rfl, h0⟩ | ⟨rfl, rfl, rfl, h0⟩
      · exact ⟨by rw [ls _ (by omega)]; exact h0, ed⟩
      · rw [ls _ (by omega)] at hl
        rw [ls _ (by omega), ev _ (by omega)]
        exact h.mv hl
    · intro hl
      rcases hc with ⟨rfl, rfl, rfl, h0⟩ | ⟨rfl, rfl, rfl, h0⟩
      · rw [ls _ (by omega)] at hl
        have := (h.asg hl).1
        rw [hf] at this
        cases this
      · exact ⟨by rw [ls _ (by omega)]; exact h0, ed⟩
theorem step_any (i : Nat) (h : BX w0 listed a w) (hr : i ∈ Region.ready .any blankOps listed) : wpOp Tryz.prog blankOps Q i (BX w0 (listed.setIfInBounds i true)) a w := by
  obtain ⟨B, r, h⟩ := h
  have hi : i < 36 := by
    obtain ⟨_, o, ho, _⟩ := mem_ready.1 hr
    have := (Array.getElem?_eq_some_iff.1 ho).1
    rwa [op_size] at this
  have hcase : i = 0 ∨ (∃ k, k < 11 ∧ i = 1 + 3 * k) ∨ (∃ k, k < 11 ∧ i = 2 + 3 * k) ∨ (∃ k, k < 11 ∧ i = 3 + 3 * k) ∨ i = 34 ∨ i = 35 := by
    by_cases h0 : i = 0
    · exact Or.inl h0
    · by_cases h3 : i < 34
      · have : i = 1 + 3 * ((i - 1) / 3) ∨ i = 2 + 3 * ((i - 1) / 3) ∨ i = 3 + 3 * ((i - 1) / 3) := by omega
        rcases this with h | h | h
        · exact Or.inr (Or.inl ⟨_, by omega, h⟩)
        · exact Or.inr (Or.inr (Or.inl ⟨_, by omega, h⟩))
        · exact Or.inr (Or.inr (Or.inr (Or.inl ⟨_, by omega, h⟩)))
      · exact Or.inr (Or.inr (Or.inr (Or.inr (by omega))))
  rcases hcase with rfl | ⟨k, hk, rfl⟩ | ⟨k, hk, rfl⟩ | ⟨k, hk, rfl⟩ | rfl | rfl
  · exact step_map h hr
  · exact step_make h hk hr
  · exact step_build h hk hr
  · exact step_ins h hk hr
  · obtain ⟨o, ho, hop, hd, hg, haf⟩ := op_move
    obtain ⟨_, o', ho', hdep⟩ := mem_ready.1 hr
    obtain rfl : o = o' := Option.some.inj (ho.symm.trans ho')
    exact step_last h hr ho (Or.inl hop) hd hg (Or.inl ⟨rfl, rfl, rfl, hdep ⟨0, .data⟩ (Array.mem_of_getElem? haf) rfl⟩)
  · obtain ⟨o, ho, hop, hd, hg, haf⟩ := op_assign
    obtain ⟨_, o', ho', hdep⟩ := mem_ready.1 hr
    obtain rfl : o = o' := Option.some.inj (ho.symm.trans ho')
    exact step_last h hr ho (Or.inr hop) hd hg (Or.inr ⟨rfl, rfl, rfl, hdep ⟨34, .data⟩ (Array.mem_of_getElem? haf) rfl⟩)
/-- what the literal leaves -/
theorem blank_region (ha : a.tmps.size = 25) (hd : a.defers = []) (hQ : ∀ a' w' B r, a'.defers = [] → a'.eval (.tmp 0) = .map (some B) → PartsAt w' w.heap.size B r zeroO → Kept noneB w w' → Q .normal a' w') :
    wpAny Tryz.prog .any blankOps Q blankOps.size (Array.replicate blankOps.size false) a { w with drawn := w.drawn + 1 } := by
  have no : ∀ j, (Array.replicate blankOps.size false).getD j false = false := fun j => by
    rw [Array.getD_eq_getD_getElem?, Array.getElem?_replicate]
    split <;> rfl
  refine wpAny_inv (BX w) (fun listed a w' i h hr => step_any i h hr) (fun listed a' w' h hr => ?_) _ _ _ _ ?_ ?_
  · obtain ⟨B, r, h⟩ := h
    have hall := all_listed (by rw [h.ls, op_size]) op_deps hr 36
    have all : ∀ i, i < 36 → listed.getD i false = true := fun i hi => hall i hi (by rw [op_size]; exact hi)
    obtain ⟨h1, h2, h3⟩ := h.m0 (all 0 (by omega))
    refine hQ a' w' B r h.df (h.asg (all 35 (by omega))).2 ⟨?_, ?_, zeroO_fits, fun i j hi hj => h.inj i j hi hj (all _ (by omega)) (all _ (by omega)), h2, fun i hi => (h.mks i hi (all _ (by omega))).2.1⟩ h.kept
    · have e : partF r = fun i => if i < 11 ∧ listed.getD (3 + 3 * i) false = true then some (partV r i) else none := by
        funext i
        unfold partF
        by_cases hi : i < 11
        · rw [if_pos hi, if_pos ⟨hi, all _ (by omega)⟩]
        · rw [if_neg hi, if_neg (fun e => hi e.1)]
      rw [e]
      exact h3
    · intro i hi
      exact (h.mks i hi (all _ (by omega))).2.2
  · unfold stillN
    exact Nat.le_trans (List.length_filter_le _ _) (by rw [List.length_range]; exact Nat.le_refl _)
  · refine ⟨0, fun _ => 0, by rw [Array.size_replicate]; exact op_size, ha, hd, (Kept.refl noneB w).drew, ?_, ?_, ?_, ?_, ?_, ?_, ?_⟩
    all_goals first
      | (intro hl; rw [no] at hl; cases hl)
      | (intro i hi hl; rw [no] at hl; cases hl)
      | (intro i j hi hj hl; rw [no] at hl; cases hl)
end
theorem field_own (w : World) (x : Int) (p : Option Addr) (l c : Nat) : (Instr.field 124 (.agg #[.int .i64 x, .slice p l c]) 1).run Tryz.prog w = .ok (.slice p l c) w := by kernel_rfl
theorem blank_any (w : World) : Calls Tryz.prog 95 #[] w fun e w' => ∃ B r, e = .returned (.map (some B)) ∧ PartsAt w' w.heap.size B r zeroO ∧ Kept noneB w w' := by
  go_enter Tryz.func95, Tryz.ntmps95
  go_wp2
  refine wp_region_any (by kernel_rfl) (blank_region (by rfl) (by rfl) fun a' w' B r hd hB hp hk => ?_)
  simp only [Exit.then]
  apply_assumption
  go_wp2
  refine bodyPost_ret (results_tmp rfl _ _ _) hd ?_
  exact ⟨B, r, congrArg Ending.returned hB, hp, hk⟩
end Go.Proofs.YtdjedimjhogdoaaGreatDoor.Head
end
section
namespace Go.Proofs.YtdjedimjhogdoaaGreatDoor
open Go.Shelf
def Tryz.laysCut_ren : Go.Shelf.Ren := ⟨fun | 4 => 80 | 5 => 100 | 6 => 123 | 7 => 43 | 8 => 124 | 9 => 125 | 10 => 126 | 11 => 138 | 12 => 139 | n => n, fun | 22 => 22 | 4 => 4 | 3 => 3 | 0 => 0 | 5 => 5 | 29 => 174 | 9 => 9 | 31 => 190 | 30 => 42 | n => n, fun | 0 => 0 | n => n⟩
theorem Tryz.laysCut : Go.Proofs.SlLaysT.n4 Tryz.prog Tryz.laysCut_ren := {
  mixed := by kernel_rfl
  f4 := Tryz.func80.trans (congrArg some (by kernel_rfl))
  f5 := Tryz.func100.trans (congrArg some (by kernel_rfl))
  f6 := Tryz.func123.trans (congrArg some (by kernel_rfl))
  f7 := Tryz.func43.trans (congrArg some (by kernel_rfl))
  f8 := Tryz.func124.trans (congrArg some (by kernel_rfl))
  f9 := Tryz.func125.trans (congrArg some (by kernel_rfl))
  f10 := Tryz.func126.trans (congrArg some (by kernel_rfl))
  f11 := Tryz.func138.trans (congrArg some (by kernel_rfl))
  f12 := Tryz.func139.trans (congrArg some (by kernel_rfl))
  t0 := Tryz.underlying0
  a0 := Tryz.isAgg0
  z0 := Tryz.sizeOf0
  v0 := Tryz.zeroValue0
  t3 := Tryz.underlying3
  a3 := Tryz.isAgg3
  z3 := Tryz.sizeOf3
  v3 := Tryz.zeroValue3
  t4 := Tryz.underlying4
  a4 := Tryz.isAgg4
  z4 := Tryz.sizeOf4
  v4 := Tryz.zeroValue4
  t5 := Tryz.underlying5
  a5 := Tryz.isAgg5
  z5 := Tryz.sizeOf5
  v5 := Tryz.zeroValue5
  t9 := Tryz.underlying9
  a9 := Tryz.isAgg9
  z9 := Tryz.sizeOf9
  v9 := Tryz.zeroValue9
  t22 := Tryz.underlying22
  a22 := Tryz.isAgg22
  z22 := Tryz.sizeOf22
  v22 := Tryz.zeroValue22
  t29 := Tryz.underlying174
  a29 := Tryz.isAgg174
  z29 := Tryz.sizeOf174
  v29 := Tryz.zeroValue174
  t30 := Tryz.underlying42
  a30 := Tryz.isAgg42
  z30 := Tryz.sizeOf42
  v30 := Tryz.zeroValue42
  t31 := Tryz.underlying190
  a31 := Tryz.isAgg190
  z31 := Tryz.sizeOf190
  v31 := Tryz.zeroValue190
  g0 := by kernel_rfl }
end Go.Proofs.YtdjedimjhogdoaaGreatDoor
end
section
namespace Go.Proofs.YtdjedimjhogdoaaGreatDoor.Head
open Go.ChangeShapes Go.WideShapes Go.ChangeAt Go.RowKit Go.Proofs.YtdjedimjhogdoaaGreatDoor.Base Go.Proofs.YtdjedimjhogdoaaGreatDoor.Byt Go.Proofs.YtdjedimjhogdoaaGreatDoor.Txt Go.Proofs.YtdjedimjhogdoaaGreatDoor.Hp Go.Proofs.YtdjedimjhogdoaaGreatDoor.Mp Go.Lib
set_option linter.unusedVariables false
set_option maxRecDepth 100000

theorem str_app' (a b : List UInt8) : str a ++ str b = str (a ++ b) := by
  apply ByteArray.ext
  simp [str, ByteArray.data_append]
theorem until_take (l : List UInt8) : (0 ≤ Lib.indexByte l 0 → l.take (Lib.indexByte l 0).toNat = untilB l ∧ (Lib.indexByte l 0).toNat ≤ l.length) ∧ (¬ 0 ≤ Lib.indexByte l 0 → untilB l = l) := by
  induction l with
  | nil => exact ⟨fun h => by simp [Lib.indexByte] at h, fun _ => rfl⟩
  | cons b l ih =>
    have hge := Lib.indexByte_ge l 0
    by_cases hb : b = 0
    · subst hb
      have e : Lib.indexByte ((0 : UInt8) :: l) 0 = 0 := by simp [Lib.indexByte]
      rw [e]
      exact ⟨fun _ => ⟨by simp [untilB], by simp⟩, fun h => absurd (by omega) h⟩
    · have hbb : (b == 0) = false := by simpa using hb
      have hu : untilB (b :: l) = b :: untilB l := by
        unfold untilB
        rw [List.takeWhile_cons, if_pos (by simpa using hb)]
      by_cases hi : Lib.indexByte l 0 = -1
      · have e : Lib.indexByte (b :: l) 0 = -1 := by simp [Lib.indexByte, hbb, hi]
        rw [e, hu]
        refine ⟨fun h => absurd h (by omega), fun _ => ?_⟩
        rw [ih.2 (by omega)]
      · have hi' : (Lib.indexByte l 0 == -1) = false := by simpa using hi
        have e : Lib.indexByte (b :: l) 0 = Lib.indexByte l 0 + 1 := by simp [Lib.indexByte, hbb, hi']
        obtain ⟨h1, h2⟩ := ih.1 (by omega)
        rw [e, hu, show (Lib.indexByte l 0 + 1).toNat = (Lib.indexByte l 0).toNat + 1 by omega]
        exact ⟨fun _ => ⟨by rw [List.take_succ_cons, h1], by rw [List.length_cons]; omega⟩, fun h => absurd (by omega) h⟩
/-- bytes.Cut of a field at a byte 0: what stands ahead of it -/
theorem cut_any (b o n c b2 : Nat) (bs : List UInt8) (w : World) (hn : bs.length = n) (hc : n ≤ c) (hm : n ≤ 140737488351232) (h : BAt w (some ⟨b, o, none⟩) n bs) (h2 : w.cell? ⟨b2, 0, none⟩ = some (.int .u8 0)) :
    Calls Tryz.prog 80 #[.slice (some ⟨b, o, none⟩) n c, .slice (some ⟨b2, 0, none⟩) 1 1] w fun e w' => ∃ v2 v3, e = .returned (.tuple #[.slice (some ⟨b, o, none⟩) (untilB bs).length c, v2, v3]) ∧ Kept noneB w w' := by
  have hu := until_take bs
  have hnb : bytesOf (nums bs) = bs := bytesOf_nums bs
  have hidx := Any.bytes_Index_one Tryz.laysCut.index b o n c b2 0 1 (nums bs) 0 w (by rw [nums_length, hn]) (fun i hi => by
    obtain ⟨b', o', he, hcell⟩ := h (by omega)
    cases he
    rw [hcell i hi]
    simp [nums, List.getD, List.getElem?_eq_getElem (show i < bs.length by omega)]) h2
  rw [hnb, show (0 : Int).toNat.toUInt8 = 0 from rfl] at hidx
  have hroom : 0 ≤ Lib.indexByte bs 0 → Lib.indexByte bs 0 + (1 : Nat) ≤ n := fun h0 => by
    obtain ⟨k, hk⟩ : ∃ k : Nat, Lib.indexByte bs 0 = k := ⟨(Lib.indexByte bs 0).toNat, by omega⟩
    have := (Lib.indexByte_some hk).1
    have hlt := (List.getElem?_eq_some_iff.1 this).1
    omega
  refine (Any.bytes_Cut_of Tryz.laysCut (some ⟨b, o, none⟩) (some ⟨b2, 0, none⟩) n c 1 1 (Lib.indexByte bs 0) w hc (Lib.indexByte_ge _ _) hroom (by omega) (hidx.mono fun e w' he => ⟨he.1, 0, he.2⟩)).mono ?_
  rintro e w' ⟨rfl, q, rfl⟩
  unfold Lib.cutV
  by_cases h0 : 0 ≤ Lib.indexByte bs 0
  · rw [if_pos h0]
    obtain ⟨h3, h4⟩ := hu.1 h0
    refine ⟨_, _, congrArg (fun k => Ending.returned (.tuple #[.slice (some ⟨b, o, none⟩) k c, _, _])) ?_, (Kept.refl _ _).drewN _⟩
    rw [← h3, List.length_take]
    omega
  · rw [if_neg h0]
    refine ⟨_, _, congrArg (fun k => Ending.returned (.tuple #[.slice (some ⟨b, o, none⟩) k c, _, _])) ?_, (Kept.refl _ _).drewN _⟩
    rw [hu.2 h0, hn]
theorem until_le (bs : List UInt8) : (untilB bs).length ≤ bs.length ∧ bs.take (untilB bs).length = untilB bs := by
  have h : untilB bs <+: bs := List.takeWhile_prefix _
  exact ⟨h.length_le, (List.prefix_iff_eq_take.1 h).symm⟩
theorem text_any (lo B : Nat) (r : Nat → Nat) (own : Nat → List UInt8) (i : Nat) (w : World) (hi : i < 11) (hP : PartsAt w lo B r own) :
    Calls Tryz.prog 77 #[.map (some B), .int .i64 (i : Int)] w fun e w' => e = .returned (.string (str (untilB (own i)))) ∧ Kept noneB w w' := by
  have fl := field_own
  have HP := Lib.hid hP
  have lk : (Instr.lookup 121 (.map (some B)) (.int .i64 (i : Int)) false).run Tryz.prog w = .ok (.agg #[.int .i64 (atF i), .slice (some ⟨r i, 0, none⟩) (wideF i) (wideF i)]) w :=
    hP.map.look (P := Tryz.prog) Tryz.underlying121 Tryz.underlying125 (x := i) (v := partV r i) (by unfold partF; rw [if_pos hi])
  have hw := wide_pos hi
  have HA := Lib.hid ((Kept.refl noneB w).alloc (.cells #[.int .u8 0] 5))
  have HW := Lib.hid hw
  clear hP hw
  go_enter Tryz.func77, Tryz.ntmps77
  go_wp2_with fail
  refine (cut_any (r i) 0 (wideF i) (wideF i) w.heap.size (own i) _ (HP.out.fit i) (Nat.le_refl _) (by have := HW.out; omega) ((HP.out.kept0 HA.out).bat hi) (by
    rw [World.cell?_alloc_at _ _ _ _ rfl]; rfl)).mono ?_
  rintro e w1 ⟨v2, v3, rfl, hk⟩
  have hul := until_le (own i)
  have cs : (convert 22 9 (.slice (some ⟨r i, 0, none⟩) (untilB (own i)).length (wideF i))).run Tryz.prog w1 = .ok (.string (str (untilB (own i)))) w1 := by
    refine conv_at ?_ rfl _ _ _ Tryz.underlying22 Tryz.underlying5 Tryz.underlying9 _
    have hb := ((HP.out.kept0 HA.out).kept0 hk).bat hi
    have := hb.take (k := (untilB (own i)).length) (by rw [← HP.out.fit i]; exact hul.1)
    rwa [hul.2] at this
  have HK := Lib.hid (HA.out.trans hk)
  clear hk hul
  go_wp2
  go_ret
  exact ⟨rfl, HK.out⟩
theorem until_any (p : Option Addr) (n c : Nat) (bs : List UInt8) (w : World) (hn : bs.length = n) (hc : n ≤ c) (hm : c ≤ 140737488351232) (h : BAt w p n bs) :
    Calls Tryz.prog 56 #[.slice p n c] w fun e w' => e = .returned (.string (str (untilB bs))) ∧ w = w' := by
  have H := Lib.hid h
  have HN := Lib.hid hn
  clear h hn
  have cv : (convert 22 9 (.slice p n c)).run Tryz.prog w = .ok (.string (str bs)) w := conv_at H.out HN.out _ _ _ Tryz.underlying22 Tryz.underlying5 Tryz.underlying9 _
  go_enter Tryz.func56, Tryz.ntmps56
  go_wp2
  go_loop [3] (fun i => ∃ (k : Nat), k ≤ n ∧ i = .int .i64 k ∧ Hid (∀ x ∈ bs.take k, x ≠ 0)) (fun i => n - (RowKit.intOf i).toNat)
  case atStart => exact ⟨0, Nat.zero_le _, rfl, Lib.hid (by simp)⟩
  case round =>
    obtain ⟨k, hk, rfl, hr⟩ := hrel
    by_cases hlt : k < n
    · obtain ⟨b, o, rfl, hbw, hcell⟩ := H.out.cell hlt
      have hcl := hcell k hlt
      clear hcell
      have hkl : k < bs.length := by rw [HN.out]; exact hlt
      have hget : bs.getD k 0 = bs[k] := by simp [List.getD, hkl]
      have htk : bs.take (k + 1) = bs.take k ++ [bs[k]] := by rw [List.take_succ_eq_append_getElem hkl]
      have HG := Lib.hid hget
      have HT := Lib.hid htk
      obtain ⟨x, hx⟩ : ∃ x : Int, x = ((bs.getD k 0).toNat : Int) := ⟨_, rfl⟩
      rw [← hx] at hcl
      have HX := Lib.hid hx
      have HKL := Lib.hid hkl
      clear hx hget htk
      by_cases h0 : x = 0
      · subst h0
        have E : Hid (untilB bs = bs.take k) := Lib.hid (by
          have hz : bs[k]'HKL.out = 0 := by rw [← HG.out]; exact UInt8.toNat_inj.1 (show (bs.getD k 0).toNat = 0 by have := HX.out; omega)
          have e1 : bs = bs.take k ++ bs.drop k := (List.take_append_drop k bs).symm
          rw [List.drop_eq_getElem_cons HKL.out, hz] at e1
          have hr' := hr.out
          generalize bs.take k = l at e1 hr'
          rw [e1]
          unfold untilB
          rw [List.takeWhile_append_of_pos (fun x hx => by simpa using hr' x hx), List.takeWhile_cons, if_neg (by decide), List.append_nil])
        have cv2 : (convert 22 9 (.slice (some ⟨b, o, none⟩) k c)).run Tryz.prog w = .ok (.string (str (bs.take k))) w :=
          conv_at (H.out.take hk) (by rw [List.length_take]; have := HN.out; omega) _ _ _ Tryz.underlying22 Tryz.underlying5 Tryz.underlying9 _
        go_wp2
        go_ret
        rw [E.out]
        exact ⟨rfl, rfl⟩
      · have hb0 : (x == 0) = false := by simpa using h0
        go_wp2
        go_round
        case rel => exact ⟨k + 1, by omega, by go_num, Lib.hid (fun y hy => by
          rw [HT.out, List.mem_append] at hy
          rcases hy with hy | hy
          · exact hr.out y hy
          · simp only [List.mem_singleton] at hy
            subst hy
            intro e
            apply h0
            rw [HX.out, HG.out, e]
            rfl)⟩
        case measure => simp [RowKit.intOf]; omega
    · have hkl : Hid (k = n) := Lib.hid (by omega)
      have E : Hid (untilB bs = bs) := Lib.hid (by
        have hr' := hr.out
        rw [hkl.out, ← HN.out, List.take_length] at hr'
        have := untilB_app hr' 0
        simpa using this)
      go_wp2
      go_ret
      rw [E.out]
      exact ⟨rfl, rfl⟩
/-- a kind's byte -/
def kindO (l : List UInt8) : UInt8 := if l.getD 0 0 = 0 then 48 else l.getD 0 0
theorem kindO_is (bs : List UInt8) : kindB bs = kindO (fieldB bs 7) := rfl
theorem kind_any (lo B : Nat) (r : Nat → Nat) (own : Nat → List UInt8) (w : World) (hP : PartsAt w lo B r own) :
    Calls Tryz.prog 78 #[.map (some B)] w fun e w' => e = .returned (.int .u8 ((kindO (own 7)).toNat : Int)) ∧ w = w' := by
  unfold kindO
  have fl := field_own
  have lk : (Instr.lookup 121 (.map (some B)) (.int .i64 7) false).run Tryz.prog w = .ok (.agg #[.int .i64 156, .slice (some ⟨r 7, 0, none⟩) 1 1]) w :=
    hP.map.look (P := Tryz.prog) Tryz.underlying121 Tryz.underlying125 (x := 7) (v := partV r 7) rfl
  have hc := (hP.row 7 (by omega)).cell 0 (by rw [hP.fit 7]; decide)
  generalize hX : (own 7).getD 0 0 = X at *
  obtain ⟨x, hx⟩ : ∃ x : Int, x = (X.toNat : Int) := ⟨_, rfl⟩
  rw [← hx] at hc
  have HX := Lib.hid hx
  clear hP hX hx
  by_cases h0 : x = 0
  · have E : Hid (X = 0) := Lib.hid (UInt8.toNat_inj.1 (by have := HX.out; simp; omega))
    have hb : (x == 0) = true := by simpa using h0
    go_enter Tryz.func78, Tryz.ntmps78
    go_wp2
    go_ret
    first | exact ⟨rfl, rfl⟩ | (rw [E.out]; exact ⟨rfl, rfl⟩)
  · have E : Hid (X ≠ 0) := Lib.hid (fun e => h0 (by rw [HX.out, e]; rfl))
    have hb : (x == 0) = false := by simpa using h0
    go_enter Tryz.func78, Tryz.ntmps78
    go_wp2
    go_ret
    first | (rw [← HX.out]; exact ⟨rfl, rfl⟩) | (rw [if_neg E.out, ← HX.out]; exact ⟨rfl, rfl⟩)
theorem name_any (lo B : Nat) (r : Nat → Nat) (own : Nat → List UInt8) (gnu : Bool) (w : World) (hP : PartsAt w lo B r own) :
    Calls Tryz.prog 76 #[.map (some B), .bool gnu] w fun e w' => e = .returned (.string (str (nameF (untilB (own 10)) (untilB (own 0)) gnu))) ∧ Kept noneB w w' := by
  have HP := Lib.hid hP
  have hu := until_le (own 10)
  have hu0 := until_le (own 0)
  have hz := HP.out.fit 10
  have hz0 := HP.out.fit 0
  obtain ⟨p, hp⟩ : ∃ p, p = untilB (own 10) := ⟨_, rfl⟩
  obtain ⟨s, hs⟩ : ∃ s, s = untilB (own 0) := ⟨_, rfl⟩
  have hpl : (str p).size ≤ 155 := by rw [str_size, hp]; have := hu.1; simp only [wideF] at hz; omega
  have hsl : (str s).size ≤ 100 := by rw [str_size, hs]; have := hu0.1; simp only [wideF] at hz0; omega
  have HPp := Lib.hid hp
  have HS := Lib.hid hs
  clear hP hu hu0 hz hz0 hp hs
  rw [← HPp.out, ← HS.out]
  by_cases h0 : p = [] ∨ gnu = true
  · have E : Hid (nameF p s gnu = s) := Lib.hid (if_pos (by rcases h0 with h | h; exact Or.inr h; exact Or.inl h))
    rcases h0 with h0 | h0
    · have hb : str p = ⟨#[]⟩ := congrArg str h0
      go_enter Tryz.func76, Tryz.ntmps76
      go_wp2_with fail
      refine (text_any lo B r own 10 w (by omega) HP.out).mono ?_
      rintro e w1 ⟨rfl, hk1⟩
      rw [← HPp.out, hb]
      have HK1 := Lib.hid hk1
      clear hk1
      go_wp2_with fail
      refine (text_any lo B r own 0 w1 (by omega) (HP.out.kept0 HK1.out)).mono ?_
      rintro e w2 ⟨rfl, hk2⟩
      rw [← HS.out]
      have HK := Lib.hid (HK1.out.trans hk2)
      clear hk2
      go_wp2
      go_ret
      rw [E.out]
      exact ⟨rfl, HK.out⟩
    · subst h0
      by_cases hpe : p = []
      · have hb : str p = ⟨#[]⟩ := congrArg str hpe
        go_enter Tryz.func76, Tryz.ntmps76
        go_wp2_with fail
        refine (text_any lo B r own 10 w (by omega) HP.out).mono ?_
        rintro e w1 ⟨rfl, hk1⟩
        rw [← HPp.out, hb]
        have HK1 := Lib.hid hk1
        clear hk1
        go_wp2_with fail
        refine (text_any lo B r own 0 w1 (by omega) (HP.out.kept0 HK1.out)).mono ?_
        rintro e w2 ⟨rfl, hk2⟩
        rw [← HS.out]
        have HK := Lib.hid (HK1.out.trans hk2)
        clear hk2
        go_wp2
        go_ret
        rw [E.out]
        exact ⟨rfl, HK.out⟩
      · have hb : (str p).toList.isEmpty = false := by rw [str_toList]; simpa using hpe
        go_enter Tryz.func76, Tryz.ntmps76
        go_wp2_with fail
        refine (text_any lo B r own 10 w (by omega) HP.out).mono ?_
        rintro e w1 ⟨rfl, hk1⟩
        rw [← HPp.out]
        have HK1 := Lib.hid hk1
        clear hk1
        go_wp2_with fail
        refine (text_any lo B r own 0 w1 (by omega) (HP.out.kept0 HK1.out)).mono ?_
        rintro e w2 ⟨rfl, hk2⟩
        rw [← HS.out]
        have HK := Lib.hid (HK1.out.trans hk2)
        clear hk2
        go_wp2
        go_ret
        rw [E.out]
        exact ⟨rfl, HK.out⟩
  · have hpe : p ≠ [] := fun e => h0 (Or.inl e)
    have hg : gnu = false := by cases gnu with
      | false => rfl
      | true => exact absurd (Or.inr rfl) h0
    subst hg
    have E : Hid (str (nameF p s false) = str p ++ ⟨#[47]⟩ ++ str s) := Lib.hid (by
      rw [nameF, if_neg (by simp [hpe]), show (⟨#[47]⟩ : ByteArray) = str [47] from rfl, str_app', str_app']
      simp)
    have hb : (str p).toList.isEmpty = false := by rw [str_toList]; simpa using hpe
    go_enter Tryz.func76, Tryz.ntmps76
    go_wp2_with fail
    refine (text_any lo B r own 10 w (by omega) HP.out).mono ?_
    rintro e w1 ⟨rfl, hk1⟩
    rw [← HPp.out]
    have HK1 := Lib.hid hk1
    clear hk1
    go_wp2_with fail
    refine (text_any lo B r own 0 w1 (by omega) (HP.out.kept0 HK1.out)).mono ?_
    rintro e w2 ⟨rfl, hk2⟩
    rw [← HS.out]
    have HK := Lib.hid (HK1.out.trans hk2)
    clear hk2
    go_wp2
    go_ret
    rw [E.out]
    exact ⟨rfl, HK.out⟩
end Go.Proofs.YtdjedimjhogdoaaGreatDoor.Head
end
section
namespace Go.Proofs.YtdjedimjhogdoaaGreatDoor.Head
open Go.ChangeShapes Go.WideShapes Go.ChangeAt Go.RowKit Go.Proofs.YtdjedimjhogdoaaGreatDoor.Base Go.Proofs.YtdjedimjhogdoaaGreatDoor.Byt Go.Proofs.YtdjedimjhogdoaaGreatDoor.Txt Go.Proofs.YtdjedimjhogdoaaGreatDoor.Hp Go.Proofs.YtdjedimjhogdoaaGreatDoor.Mp Go.Lib
set_option linter.unusedVariables false
set_option maxRecDepth 100000

theorem iter_off {w : World} {B R g : Nat} {f : Nat → Option Value} {todo : Nat → Bool} {bs : List UInt8} (h : IterF w B R f todo) (hr : RowB w g bs) : g ≠ B ∧ g ≠ R := by
  obtain ⟨es, clock, since, seen, c0, hb, hs, h1, h2, hR, _⟩ := h
  unfold RowB at hr
  refine ⟨fun e => ?_, fun e => ?_⟩
  · rw [e, hb] at hr; cases hr
  · rw [e, hR] at hr; cases hr
theorem iter_ne {w : World} {B R : Nat} {f : Nat → Option Value} {todo : Nat → Bool} (h : IterF w B R f todo) (e : B = R) : False := by
  obtain ⟨es, clock, since, seen, c0, hb, hs, h1, h2, hR, _⟩ := h
  rw [← e, hb] at hR
  cases hR
/-- some fields are as b has them, the others as a -/
def mixO (todo : Nat → Bool) (a b : Nat → List UInt8) : Nat → List UInt8 := fun i => if todo i = true then a i else b i
theorem mix_fits {todo : Nat → Bool} {a b : Nat → List UInt8} (ha : Fits a) (hb : Fits b) : Fits (mixO todo a b) := fun i => by
  unfold mixO
  split
  · exact ha i
  · exact hb i
theorem mix_done {todo : Nat → Bool} {a b : Nat → List UInt8} (ha : Fits a) (hb : Fits b) (h : ∀ i, i < 11 → todo i = false) : mixO todo a b = b :=
  fits_ext (mix_fits ha hb) hb fun i hi => by unfold mixO; rw [if_neg (by simp [h i hi])]
theorem mix_step {todo : Nat → Bool} {a b : Nat → List UInt8} (j : Nat) : upd (mixO todo a b) j (b j) = mixO (fun z => todo z && z != j) a b := by
  funext i
  by_cases hi : i = j
  · subst hi
    rw [upd_same, mixO, if_neg (by simp)]
  · rw [upd_other _ _ hi, mixO, mixO]
    have : (i != j) = true := by simpa using hi
    simp [this]
theorem partF_val (r : Nat → Nat) : ∀ j v, partF r j = some v → v = partV r j := fun j v h => by
  unfold partF at h
  split at h
  · exact (Option.some.inj h).symm
  · cases h
theorem partF_lt {r : Nat → Nat} {j : Nat} {v : Value} (h : partF r j = some v) : j < 11 := by
  unfold partF at h
  split at h
  · assumption
  · cases h
theorem infoSz : (Tryz.prog.info? 5).map (·.size) = some 1 := by kernel_rfl
theorem putInto_all {old cs : List UInt8} (h : cs.length = old.length) : putInto old cs = cs := by
  simp [putInto, List.drop_eq_nil_of_le (show old.length ≤ cs.length by omega)]
set_option maxHeartbeats 2000000 in
theorem read_any (p : Option Addr) (c : Nat) (bs : List UInt8) (w : World) (hn : bs.length = 512) (hc : 512 ≤ c) (hm : c ≤ maxLen) (h : BAt w p 512 bs) :
    Calls Tryz.prog 72 #[.slice p 512 c] w fun e w' => ∃ B r, e = .returned (.map (some B)) ∧ PartsAt w' w.heap.size B r (readO bs) ∧ Kept noneB w w' := by
  unfold maxLen at hm
  obtain ⟨b, o, rfl, hbw, _⟩ := h.cell (k := 0) (by omega)
  have H := Lib.hid h
  have HN := Lib.hid hn
  clear h hn
  go_enter Tryz.func72, Tryz.ntmps72
  go_wp2_with fail
  refine (blank_any w).mono ?_
  rintro e w1 ⟨B, r, rfl, hP, hk⟩
  have HP := Lib.hid hP
  have HK := Lib.hid hk
  clear hP hk
  obtain ⟨R, hR⟩ : ∃ R, R = w1.heap.size := ⟨_, rfl⟩
  go_wp2_with (first | (at_range; refine wpList_rangeF rfl _ rfl Tryz.underlying121 B HP.out.map (fun _ => true) (fun _ _ _ => rfl) rfl R hR ?_; intro w2 HI hk2 hs2) | go_in)
  have HP2 := Lib.hid (HP.out.kept0 hk2.out)
  have HK2 := Lib.hid (HK.out.trans hk2.out)
  have HRL : Hid (w.heap.size ≤ R) := Lib.hid (by rw [hR]; exact HK.out.size)
  clear hk2 hs2 hR
  try go_frame
  go_loopw [9] (fun _ wr => ∃ todo, Hid (IterF wr B R (partF r) todo) ∧ Hid (PartsAt wr w.heap.size B r (mixO todo zeroO (readO bs))) ∧ Hid (Kept noneB w wr)) (fun _ wr => wr.rangeLeft B R)
  case atStart => exact ⟨fun _ => true, HI, by
    have e : mixO (fun _ => true) zeroO (readO bs) = zeroO := by funext i; exact if_pos rfl
    rw [e]; exact HP2, HK2⟩
  case round =>
    obtain ⟨todo, hI, hP, hK⟩ := hrel
    go_wp2_with (at_next; refine wpList_nextF rfl _ rfl B R todo (partV r) (partF_val r) rfl hI.out ?_ ?_)
    · intro hd
      have hall : ∀ i, i < 11 → todo i = false := fun i hi => hd i (partV r i) (by unfold partF; rw [if_pos hi])
      have HD := Lib.hid (mix_done (todo := todo) zeroO_fits (readO_fits HN.out) hall)
      clear hd hall
      go_wp2
      go_ret
      refine ⟨B, r, rfl, ?_, hK.out⟩
      rw [← HD.out]
      exact hP.out
    · intro j w3 v hj htj HI3 HLT HK3 hs3 hen
      have hj := partF_lt hj
      have hen' : (Instr.entry (.pointer (some ⟨R, 0, none⟩))).run Tryz.prog w3 = .ok (.tuple #[.int .i64 (j : Int), .agg #[.int .i64 (atF j), .slice (some ⟨r j, 0, none⟩) (wideF j) (wideF j)]]) w3 := hen
      have hw := wide_pos hj
      have hin := field_in hj
      have HJ := Lib.hid hj
      clear hen
      go_wp2_with fail
      obtain ⟨w4, hw4⟩ : ∃ w4, w4 = w3.alloc (.cells #[.int .i64 (atF j), .slice (some ⟨r j, 0, none⟩) (wideF j) (wideF j)] 124) := ⟨_, rfl⟩
      have hk4 : Kept noneB w3 w4 := by rw [hw4]; exact (Kept.refl _ _).alloc _
      have h4b : w4.heap[wr.heap.size]? = some (.cells #[.int .i64 (atF j), .slice (some ⟨r j, 0, none⟩) (wideF j) (wideF j)] 124 (0, 0)) := by rw [hw4, ← hs3]; exact heap_alloc_new _ _
      rw [← hw4]
      have hc0 : w4.drew.cell? ⟨wr.heap.size, 0, none⟩ = some (.int .i64 (atF j)) := cellsAt (w := w4) h4b 0
      have hc1 : w4.drew.cell? ⟨wr.heap.size, 1, none⟩ = some (.slice (some ⟨r j, 0, none⟩) (wideF j) (wideF j)) := cellsAt (w := w4) h4b 1
      have hkR : Kept (oneB R) wr w4.drew := HK3.out.trans (hk4.drew.of_none _)
      have hoff := iter_off hI.out (hP.out.row j hj)
      have hP4 := hP.out.kept hkR (fun e => iter_ne hI.out e) (fun i hi e => (iter_off hI.out (hP.out.row i hi)).2 e)
      have hK4 := hK.out.then hkR (fun i hi => Or.inl (by
        have h1 : i = R := hi
        rw [h1]
        exact HRL.out))
      have hI4 := HI3.out.kept (hk4.drew) id id
      have hfl : (fieldB bs j).length = wideF j := fieldB_length HN.out hj
      have hrow := hP4.row j hj
      have hsrc : BAt w4.drew (some ⟨b, o + atF j, none⟩) (fieldB bs j).length (fieldB bs j) := by
        have h1 := (H.out.below (hK4.below (Nat.le_refl _) (fun k hk => hk.elim))).drop (k := atF j) (c := c) (by omega) (by omega) HN.out
        rw [if_neg (by omega)] at h1
        have h2 := h1.take (k := wideF j) (by omega)
        rw [hfl]
        simpa [add_plain, fieldB] using h2
      have hrow2 : ((mixO todo zeroO (readO bs)) j).length = wideF j := hP4.fit j
      have HP4 := Lib.hid hP4
      have HK4 := Lib.hid hK4
      have HI4 := Lib.hid hI4
      have HOFF := Lib.hid hoff
      have HROW := Lib.hid hrow
      have HSRC := Lib.hid hsrc
      have HFL := Lib.hid hfl
      have HRL2 := Lib.hid hrow2
      have HBLK := Lib.hid h4b
      have hrl : Hid (w4.drew.rangeLeft B R < wr.rangeLeft B R) := Lib.hid (by rw [hI4.2]; exact HLT.out)
      clear hkR hoff hP4 hK4 hI4 hfl hrow hsrc hrow2 h4b hk4 hw4 hen'
      go_region_held_law (fun w' => w'.cell? ⟨wr.heap.size, 0, none⟩ = some (.int .i64 (atF j)) ∧ w'.cell? ⟨wr.heap.size, 1, none⟩ = some (.slice (some ⟨r j, 0, none⟩) (wideF j) (wideF j))) (first | exact ⟨hc0, hc1⟩ | exact hc5)
        (first
          | (refine step_copyB rfl _ _ 22 22 rfl 5 Tryz.underlying22 infoSz (some ⟨r j, 0, none⟩) (some ⟨b, o + atF j, none⟩) (wideF j) (wideF j) (512 - atF j) (c - atF j) rfl rfl (r j) 0 (mixO todo zeroO (readO bs) j) HROW.out (fieldB bs j)
              (by rw [HFL.out]; exact (Nat.min_eq_right (by omega)).symm) (fun _ => rfl) HSRC.out (by rw [HFL.out, HRL2.out]; omega) ?_
             intro w5 hr5 hk5 hs5
             have hk5' := Lib.hid hk5
             have hc5 : w5.cell? ⟨wr.heap.size, 0, none⟩ = some (.int .i64 (atF j)) ∧ w5.cell? ⟨wr.heap.size, 1, none⟩ = some (.slice (some ⟨r j, 0, none⟩) (wideF j) (wideF j)) := by
               have h5 : w5.heap[wr.heap.size]? = _ := hk5.some_ (show w4.drew.heap[wr.heap.size]? = _ from HBLK.out) (fun e => by
                 have h1 : wr.heap.size = r j := e
                 have h2 := (hP.out.row j HJ.out).lt
                 omega)
               exact ⟨cellsAt h5 0, cellsAt h5 1⟩
             clear hk5))
      simp only [List.getElem_toArray, List.getElem_cons_succ, List.getElem_cons_zero]
      go_frame
      go_wp2
      go_roundw
      case rel =>
        have hk := hk5'.out
        have hlo := HP4.out.lo.2 j HJ.out
        refine ⟨fun z => todo z && z != j, Lib.hid (HI4.out.1.kept hk (fun e => HOFF.out.1 (Eq.symm e)) (fun e => HOFF.out.2 (Eq.symm e))).1, Lib.hid ?_, Lib.hid (HK4.out.then hk (fun i hi => Or.inl (by
          have h1 : i = r j := hi
          rw [h1]
          exact hlo)))⟩
        have hw := HP4.out.wrote HJ.out hk (l := fieldB bs j) HFL.out (by
          have h1 := hr5.out
          rwa [splice_zero, putInto_all (by rw [HFL.out, HRL2.out])] at h1)
        have e := mix_step (todo := todo) (a := zeroO) (b := readO bs) j
        rw [show readO bs j = fieldB bs j by unfold readO; rw [if_pos HJ.out]] at e
        rw [e] at hw
        exact hw
      case measure =>
        have hk := hk5'.out
        have h1 := (HI4.out.1.kept hk (fun e => HOFF.out.1 (Eq.symm e)) (fun e => HOFF.out.2 (Eq.symm e))).2
        have h2 := hrl.out
        omega
end Go.Proofs.YtdjedimjhogdoaaGreatDoor.Head
end
section
namespace Go.Proofs.YtdjedimjhogdoaaGreatDoor.Field
open Go.ChangeShapes Go.WideShapes Go.ChangeAt Go.RowKit Go.Proofs.YtdjedimjhogdoaaGreatDoor.Base Go.Proofs.YtdjedimjhogdoaaGreatDoor.Num Go.Proofs.YtdjedimjhogdoaaGreatDoor.Fp Go.Proofs.YtdjedimjhogdoaaGreatDoor.Byt
set_option linter.unusedVariables false

theorem v_some (x : Int) : valO (some x) = x := rfl
theorem o_some (x : Int) : okO (some x) = true := rfl
theorem v_none : valO none = 0 := rfl
theorem o_none : okO none = false := rfl
set_option maxHeartbeats 800000 in
theorem number_any (base zero : Int) (p : Option Addr) (n c : Nat) (bs : List UInt8) (w : World) (hb0 : 2 ≤ base) (hb1 : base ≤ 256) (hz0 : 0 ≤ zero) (hz1 : zero + base ≤ 256)
    (hn : bs.length = n) (hm : n ≤ maxLen) (h : BAt w p n bs) :
    Calls Tryz.prog 96 #[.int .i64 base, .int .u8 zero, .slice p n c] w fun e w' => e = .returned (.tuple #[.int .i64 (valI (digF base zero bs 0)), .bool (okI (digF base zero bs 0))]) ∧ Below w.heap.size w w' := by
  unfold maxLen at hm
  have HN := Lib.hid hn
  have H := Lib.hid h
  clear hn h
  go_enter Tryz.func96, Tryz.ntmps96
  go_wp2
  go_loopw [8, 16] (fun s i wr => ∃ (k : Nat) (s0 : Int), k ≤ n ∧ 0 ≤ s0 ∧ s0 ≤ 4611686018427387904 ∧ i = .int .i64 k ∧ s = .int .i64 s0 ∧ Hid (digF base zero (bs.drop k) s0 = digF base zero bs 0) ∧ Below w.heap.size w wr) (fun _ i _ => n - (RowKit.intOf i).toNat)
  case atStart => exact ⟨0, 0, Nat.zero_le _, by omega, by decide, rfl, rfl, Lib.hid rfl, Below.refl _ _⟩
  case round =>
    obtain ⟨k, s0, hk, hs0, hs1, rfl, rfl, hr, hbel⟩ := hrel
    by_cases hlt : k < n
    · obtain ⟨b, o, rfl, hbw, hcell⟩ := H.out.cell hlt
      have hc := hcell k hlt
      clear hcell
      obtain ⟨x, hx⟩ : ∃ x : Int, x = ((bs.getD k 0).toNat : Int) := ⟨_, rfl⟩
      rw [← hx] at hc
      have hxb := u8_bd (bs.getD k 0)
      rw [← hx] at hxb
      have HX := Lib.hid hx
      clear hx
      obtain ⟨hx0, hx1⟩ := hxb
      rw [← hbel.cell hbw] at hc
      by_cases hd : base ≤ (x - zero) % 256
      · have E : Hid (digF base zero bs 0 = none) := Lib.hid (by
          rw [← hr.out]; exact digF_stop base zero bs k s0 (by rw [HN.out]; exact hlt) (by rw [← HX.out]; omega))
        go_wp2
        go_ret2
        rw [E.out]
        exact ⟨rfl, hbel⟩
      · have hzx : zero ≤ x ∧ x < zero + base := by omega
        have hdx : Hid ((x - zero) % 256 = x - zero) := Lib.hid (by omega)
        have hd0 : 0 ≤ x - zero ∧ x - zero ≤ 255 := by omega
        obtain ⟨hd0, hd1⟩ := hd0
        have hp0 : 0 ≤ s0 * base := Int.mul_nonneg hs0 (by omega)
        by_cases hp : s0 * base ≤ 4611686018427387904
        · have EM : Hid (mulF s0 base = some (s0 * base)) := Lib.hid (by rw [mulF, if_pos ⟨hs0, hs1, by omega, by omega, hp⟩])
          go_wp2_with fail
          refine (mul_any _ _ _).mono ?_
          rintro e w1 ⟨rfl, rfl⟩
          rw [EM.out, v_some, o_some]
          by_cases hq : s0 * base + (x - zero) ≤ 4611686018427387904
          · have ES : Hid (sumF [s0 * base, x - zero] 0 = some (s0 * base + (x - zero))) := Lib.hid (by rw [sumF_two, if_pos ⟨hp0, hp, hd0, hq⟩])
            go_wp2_with fail
            refine (add_two _ _ _).mono ?_
            rintro e w2 ⟨rfl, rfl⟩
            rw [ES.out, v_some, o_some]
            go_wp2
            go_roundw
            case rel => exact ⟨k + 1, s0 * base + (x - zero), by omega, by omega, hq, by go_num, rfl, Lib.hid (by rw [← hr.out, digF_step base zero bs k s0 (by rw [HN.out]; exact hlt) (by rw [← HX.out]; have := hdx.out; omega), ← HX.out]), hbel.alloc hbel.size _⟩
            case measure => simp [RowKit.intOf]; omega
          · have ES : Hid (sumF [s0 * base, x - zero] 0 = none) := Lib.hid (by rw [sumF_two, if_neg (by omega)])
            have E : Hid (digF base zero bs 0 = none) := Lib.hid (by
              rw [← hr.out]; exact digF_stop base zero bs k s0 (by rw [HN.out]; exact hlt) (by rw [← HX.out]; have := hdx.out; omega))
            go_wp2_with fail
            refine (add_two _ _ _).mono ?_
            rintro e w2 ⟨rfl, rfl⟩
            rw [ES.out, v_none, o_none]
            go_wp2
            go_ret2
            rw [E.out]
            exact ⟨rfl, hbel.alloc hbel.size _⟩
        · have EM : Hid (mulF s0 base = none) := Lib.hid (by rw [mulF, if_neg (by omega)])
          have E : Hid (digF base zero bs 0 = none) := Lib.hid (by
            rw [← hr.out]; exact digF_stop base zero bs k s0 (by rw [HN.out]; exact hlt) (by rw [← HX.out]; have := hdx.out; omega))
          go_wp2_with fail
          refine (mul_any _ _ _).mono ?_
          rintro e w1 ⟨rfl, rfl⟩
          rw [EM.out, v_none, o_none]
          go_wp2
          go_ret2
          rw [E.out]
          exact ⟨rfl, hbel⟩
    · have hkl : Hid (k = n) := Lib.hid (by omega)
      go_wp2
      go_ret2
      have E : digF base zero bs 0 = some s0 := by rw [← hr.out, hkl.out, ← HN.out, List.drop_length]; rfl
      rw [E]
      exact ⟨rfl, hbel⟩
end Go.Proofs.YtdjedimjhogdoaaGreatDoor.Field
end
section
namespace Go.Proofs.YtdjedimjhogdoaaGreatDoor
open Go.Shelf
def Tryz.lays7_ren : Go.Shelf.Ren := ⟨fun | 7 => 97 | 10 => 120 | 11 => 115 | 13 => 121 | 15 => 122 | 16 => 134 | 19 => 137 | 18 => 136 | 21 => 147 | 17 => 135 | 20 => 146 | n => n, fun | 22 => 22 | 9 => 9 | 3 => 3 | 4 => 4 | 5 => 5 | 28 => 167 | 27 => 166 | 0 => 0 | 31 => 170 | 21 => 21 | 33 => 187 | 36 => 182 | 37 => 174 | 40 => 185 | 39 => 184 | n => n, fun | 0 => 1 | 1 => 2 | n => n⟩
theorem Tryz.lays7 : Go.Proofs.SlLaysV.n7 Tryz.prog Tryz.lays7_ren := {
  mixed := by kernel_rfl
  f7 := Tryz.func97.trans (congrArg some (by kernel_rfl))
  f10 := Tryz.func120.trans (congrArg some (by kernel_rfl))
  f11 := Tryz.func115.trans (congrArg some (by kernel_rfl))
  f13 := Tryz.func121.trans (congrArg some (by kernel_rfl))
  f15 := Tryz.func122.trans (congrArg some (by kernel_rfl))
  f16 := Tryz.func134.trans (congrArg some (by kernel_rfl))
  f17 := Tryz.func135.trans (congrArg some (by kernel_rfl))
  f18 := Tryz.func136.trans (congrArg some (by kernel_rfl))
  f19 := Tryz.func137.trans (congrArg some (by kernel_rfl))
  f20 := Tryz.func146.trans (congrArg some (by kernel_rfl))
  f21 := Tryz.func147.trans (congrArg some (by kernel_rfl))
  t0 := Tryz.underlying0
  a0 := Tryz.isAgg0
  z0 := Tryz.sizeOf0
  v0 := Tryz.zeroValue0
  t3 := Tryz.underlying3
  a3 := Tryz.isAgg3
  z3 := Tryz.sizeOf3
  v3 := Tryz.zeroValue3
  t4 := Tryz.underlying4
  a4 := Tryz.isAgg4
  z4 := Tryz.sizeOf4
  v4 := Tryz.zeroValue4
  t5 := Tryz.underlying5
  a5 := Tryz.isAgg5
  z5 := Tryz.sizeOf5
  v5 := Tryz.zeroValue5
  t9 := Tryz.underlying9
  a9 := Tryz.isAgg9
  z9 := Tryz.sizeOf9
  v9 := Tryz.zeroValue9
  t21 := Tryz.underlying21
  a21 := Tryz.isAgg21
  z21 := Tryz.sizeOf21
  v21 := Tryz.zeroValue21
  t22 := Tryz.underlying22
  a22 := Tryz.isAgg22
  z22 := Tryz.sizeOf22
  v22 := Tryz.zeroValue22
  t27 := Tryz.underlying166
  a27 := Tryz.isAgg166
  z27 := Tryz.sizeOf166
  t28 := Tryz.underlying167
  a28 := Tryz.isAgg167
  z28 := Tryz.sizeOf167
  v28 := Tryz.zeroValue167
  t31 := Tryz.underlying170
  a31 := Tryz.isAgg170
  z31 := Tryz.sizeOf170
  v31 := Tryz.zeroValue170
  t33 := Tryz.underlying187
  a33 := Tryz.isAgg187
  z33 := Tryz.sizeOf187
  v33 := Tryz.zeroValue187
  t36 := Tryz.underlying182
  a36 := Tryz.isAgg182
  z36 := Tryz.sizeOf182
  t37 := Tryz.underlying174
  a37 := Tryz.isAgg174
  z37 := Tryz.sizeOf174
  v37 := Tryz.zeroValue174
  t39 := Tryz.underlying184
  a39 := Tryz.isAgg184
  z39 := Tryz.sizeOf184
  v39 := Tryz.zeroValue184
  t40 := Tryz.underlying185
  a40 := Tryz.isAgg185
  z40 := Tryz.sizeOf185
  v40 := Tryz.zeroValue185 }
def Tryz.lays8_ren : Go.Shelf.Ren := ⟨fun | 8 => 94 | 9 => 114 | 11 => 115 | 12 => 116 | 14 => 117 | 16 => 134 | 17 => 135 | 18 => 136 | 20 => 146 | n => n, fun | 22 => 22 | 9 => 9 | 3 => 3 | 4 => 4 | 5 => 5 | 28 => 167 | 27 => 166 | 0 => 0 | 31 => 170 | 33 => 187 | 21 => 21 | 36 => 182 | 37 => 174 | 40 => 185 | 39 => 184 | n => n, fun | 0 => 1 | 1 => 2 | n => n⟩
theorem Tryz.lays8 : Go.Proofs.SlLaysV.n8 Tryz.prog Tryz.lays8_ren := {
  mixed := by kernel_rfl
  f8 := Tryz.func94.trans (congrArg some (by kernel_rfl))
  f9 := Tryz.func114.trans (congrArg some (by kernel_rfl))
  f11 := Tryz.func115.trans (congrArg some (by kernel_rfl))
  f12 := Tryz.func116.trans (congrArg some (by kernel_rfl))
  f14 := Tryz.func117.trans (congrArg some (by kernel_rfl))
  f16 := Tryz.func134.trans (congrArg some (by kernel_rfl))
  f17 := Tryz.func135.trans (congrArg some (by kernel_rfl))
  f18 := Tryz.func136.trans (congrArg some (by kernel_rfl))
  f20 := Tryz.func146.trans (congrArg some (by kernel_rfl))
  t0 := Tryz.underlying0
  a0 := Tryz.isAgg0
  z0 := Tryz.sizeOf0
  v0 := Tryz.zeroValue0
  t3 := Tryz.underlying3
  a3 := Tryz.isAgg3
  z3 := Tryz.sizeOf3
  v3 := Tryz.zeroValue3
  t4 := Tryz.underlying4
  a4 := Tryz.isAgg4
  z4 := Tryz.sizeOf4
  v4 := Tryz.zeroValue4
  t5 := Tryz.underlying5
  a5 := Tryz.isAgg5
  z5 := Tryz.sizeOf5
  v5 := Tryz.zeroValue5
  t9 := Tryz.underlying9
  a9 := Tryz.isAgg9
  z9 := Tryz.sizeOf9
  v9 := Tryz.zeroValue9
  t21 := Tryz.underlying21
  a21 := Tryz.isAgg21
  z21 := Tryz.sizeOf21
  v21 := Tryz.zeroValue21
  t22 := Tryz.underlying22
  a22 := Tryz.isAgg22
  z22 := Tryz.sizeOf22
  v22 := Tryz.zeroValue22
  t27 := Tryz.underlying166
  a27 := Tryz.isAgg166
  z27 := Tryz.sizeOf166
  t28 := Tryz.underlying167
  a28 := Tryz.isAgg167
  z28 := Tryz.sizeOf167
  v28 := Tryz.zeroValue167
  t31 := Tryz.underlying170
  a31 := Tryz.isAgg170
  z31 := Tryz.sizeOf170
  v31 := Tryz.zeroValue170
  t33 := Tryz.underlying187
  a33 := Tryz.isAgg187
  z33 := Tryz.sizeOf187
  v33 := Tryz.zeroValue187
  t36 := Tryz.underlying182
  a36 := Tryz.isAgg182
  z36 := Tryz.sizeOf182
  t37 := Tryz.underlying174
  a37 := Tryz.isAgg174
  z37 := Tryz.sizeOf174
  v37 := Tryz.zeroValue174
  t39 := Tryz.underlying184
  a39 := Tryz.isAgg184
  z39 := Tryz.sizeOf184
  v39 := Tryz.zeroValue184
  t40 := Tryz.underlying185
  a40 := Tryz.isAgg185
  z40 := Tryz.sizeOf185
  v40 := Tryz.zeroValue185 }
end Go.Proofs.YtdjedimjhogdoaaGreatDoor
end
