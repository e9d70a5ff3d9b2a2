/- The last record that has a key, as layer attr finds it (from behind, by slices.Backward), and as the document does. -/
import Derived.Test.YtfmhdkemigpjjaaDoorAttrBack
import Derived.Test.YtfmhdkemigpjjaaDoorAttrFns
namespace Go.Proofs.YtfmhdkemigpjjaaDoor.Attr
open Go.ChangeShapes Go.WideShapes Go.ChangeAt Go.RowKit Go.Shelf Go.Proofs.YtfmhdkemigpjjaaDoor.Base Go.Proofs.YtfmhdkemigpjjaaDoor.Byt Go.Proofs.YtfmhdkemigpjjaaDoor.Txt Go.Proofs.YtfmhdkemigpjjaaDoor.Rec Go.Proofs.YtfmhdkemigpjjaaDoor.Bk Go.Lib
set_option linter.unusedVariables false
set_option maxRecDepth 100000
attribute [local go_sem] Oper.semAt_some

def recC (k v : List UInt8) : Array Value := #[.string (str k), .string (str v)]
def lastV (rs : RecL) (k : List UInt8) : Value := match lastD rs k with
  | some v => .tuple #[.agg (recC k v), .bool true]
  | none => .tuple #[.agg (recC [] []), .bool false]
theorem lastD_rev {rs pre : RecL} {x : List UInt8 × List UInt8} {rest : RecL} {k : List UInt8} (h : rs.reverse = pre ++ x :: rest) (hp : ∀ r ∈ pre, r.1 ≠ k) (hx : x.1 = k) : lastD rs k = some x.2 := by
  have e : rs = rest.reverse ++ x :: pre.reverse := by
    have := congrArg List.reverse h
    rw [List.reverse_reverse, List.reverse_append, List.reverse_cons, List.append_assoc] at this
    exact this
  rw [e, lastD_app, lastD, lastD_none (rs := pre.reverse) fun r hr => hp r (List.mem_reverse.1 hr)]
  simp [hx]
theorem ret_rec (tmps : Array Value) (w : World) (b0 b1 : Nat) (a b : ByteArray) (o : Bool) (h0 : tmps[4]? = some (.pointer (some ⟨b0, 0, none⟩))) (h1 : tmps[5]? = some (.pointer (some ⟨b1, 0, none⟩)))
    (c0 : Blk w b0 43 #[.string a, .string b]) (c1 : Blk w b1 4 #[.bool o]) :
    (results Tryd.f20 tmps).run Tryd.prog w = .ok (.tuple #[.agg #[.string a, .string b], .bool o]) w := by
  have d0 := c0.cell 0
  have d1 := c0.cell 1
  have d2 := c1.cell 0
  simp at d0 d1 d2
  simp [results, Tryd.f20, go_sem, h0, h1, d0, d1, d2]
set_option maxHeartbeats 2000000 in
theorem last_any (k : List UInt8) (p : Option Addr) (n c : Nat) (rs : RecL) (w : World) (hn : n ≤ 4611686018427387904) (h : RecsAt w p n rs) :
    Calls Tryd.prog 20 #[.string (str k), .slice p n c] w fun e w' => e = .returned (lastV rs k) ∧ Below w.heap.size w w' := by
  obtain rfl : rs.length = n := h.1
  have H := Lib.hid h
  clear h
  refine (callsIn_wide (n := 3)).1 ?_
  refine callsIn_of_wp_marks Tryd.func20 rfl trivial ?_ rfl
  simp only [Tryd.ntmps20, List.size_toArray, List.length_cons, List.length_nil, Nat.reduceAdd, Nat.reduceSub, Array.replicate_succ, Array.replicate_zero, List.push_toArray, List.append_toArray, List.nil_append, List.cons_append]
  gi_wp2_with fail
  refine ⟨trivial, (callsIn_wide.2 (backward_any _ _ _ _)).mono ?_⟩
  rintro e w' ⟨rfl, rfl⟩
  gi_wp2_with fail
  have bK : Blk _ w.heap.size 9 #[.string (str k)] := (((Blk.new w 9 #[.string (str k)]).alloc (.cells #[.string ⟨#[]⟩, .string ⟨#[]⟩] 43)).alloc (.cells #[.bool false] 4)).alloc (.cells #[.slice p rs.length c] 27)
  have bR := ((Blk.new (w.alloc (.cells #[.string (str k)] 9)) 43 #[.string ⟨#[]⟩, .string ⟨#[]⟩]).alloc (.cells #[.bool false] 4)).alloc (.cells #[.slice p rs.length c] 27)
  have bO := (Blk.new ((w.alloc (.cells #[.string (str k)] 9)).alloc (.cells #[.string ⟨#[]⟩, .string ⟨#[]⟩] 43)) 4 #[.bool false]).alloc (.cells #[.slice p rs.length c] 27)
  have bS := Blk.new (((w.alloc (.cells #[.string (str k)] 9)).alloc (.cells #[.string ⟨#[]⟩, .string ⟨#[]⟩] 43)).alloc (.cells #[.bool false] 4)) 27 #[.slice p rs.length c]
  have hB0 : Below w.heap.size w ((((w.alloc (.cells #[.string (str k)] 9)).alloc (.cells #[.string ⟨#[]⟩, .string ⟨#[]⟩] 43)).alloc (.cells #[.bool false] 4)).alloc (.cells #[.slice p rs.length c] 27)) :=
    ((((Below.refl _ w).alloc (Nat.le_refl _) _).alloc (by simp) _).alloc (by simp; omega) _).alloc (by simp; omega) _
  have hsz : ((((w.alloc (.cells #[.string (str k)] 9)).alloc (.cells #[.string ⟨#[]⟩, .string ⟨#[]⟩] 43)).alloc (.cells #[.bool false] 4)).alloc (.cells #[.slice p rs.length c] 27)).heap.size = w.heap.size + 4 := by simp
  simp only [World.size_alloc] at bR bO bS
  obtain ⟨W0, hW0⟩ : ∃ W0, (((w.alloc (.cells #[.string (str k)] 9)).alloc (.cells #[.string ⟨#[]⟩, .string ⟨#[]⟩] 43)).alloc (.cells #[.bool false] 4)).alloc (.cells #[.slice p rs.length c] 27) = W0 := ⟨_, rfl⟩
  rw [hW0] at bK bR bO bS hB0 hsz ⊢
  clear hW0
  have HSZ := Lib.hid hsz
  have HB0 := Lib.hid hB0
  have hR0 := H.out.below hB0
  refine wpIn_rangeFunc_ownH rfl (by omega) (gf := 31) (lb := #[.pointer (some ⟨w.heap.size + 1 + 1 + 1, 0, none⟩)]) rfl trivial (enters_of Tryd.func31 (by kernel_rfl) rfl)
    (back_stops _ (by omega) (w.heap.size + 1 + 1 + 1) p c rs hn W0 (by omega) (bS.cell 0) hR0) belowK_t (belowK_b (Nat.le_refl _)) (Below.refl _ _) (fun _ => rfl)
    (fun pre W => (Blk W w.heap.size 9 #[.string (str k)] ∧ Blk W (w.heap.size + 1) 43 #[.string ⟨#[]⟩, .string ⟨#[]⟩] ∧ Blk W (w.heap.size + 1 + 1) 4 #[.bool false] ∧ ∀ x ∈ pre, x.2.1 ≠ k) ∧ Below W0.heap.size W0 W)
    (fun c pre W => (c = .ret ∧ ∃ pre0 x, pre = pre0 ++ [x] ∧ (∀ y ∈ pre0, y.2.1 ≠ k) ∧ x.2.1 = k ∧ Blk W (w.heap.size + 1) 43 #[.string (str x.2.1), .string (str x.2.2)] ∧ Blk W (w.heap.size + 1 + 1) 4 #[.bool true]) ∧ Below w.heap.size w W)
    (OwnFrom.and (Own.from (fun s A B row hs hg hr => ⟨hs.1.kept hg hr, hs.2.1.kept hg hr, hs.2.2.1.kept hg hr, hs.2.2.2⟩) _) (ownFrom_below (Nat.le_refl _) (Nat.le_refl _)))
    (fun c => OwnFrom.and (Own.from (fun s A B row hs hg hr => by obtain ⟨h0, pre0, x, h1, h2, h3, h4, h5⟩ := hs; exact ⟨h0, pre0, x, h1, h2, h3, h4.kept hg hr, h5.kept hg hr⟩) _) (ownFrom_below (Nat.le_refl _) (by omega)))
    ⟨⟨bK, bR, bO, by simp⟩, Below.refl _ _⟩
    (fun x a' W => ∃ Bx, W0.heap.size ≤ Bx ∧ Blk W Bx 43 #[.string (str x.2.1), .string (str x.2.2)] ∧ a' = { tmps := #[.string (str k), .slice p rs.length c, .pointer (some ⟨w.heap.size, 0, none⟩), undef, .pointer (some ⟨w.heap.size + 1, 0, none⟩), .pointer (some ⟨w.heap.size + 1 + 1, 0, none⟩), undef, .pointer (some ⟨Bx, 0, none⟩), .slice p rs.length c, .func (.func 31) #[] #[.pointer (some ⟨w.heap.size + 1 + 1 + 1, 0, none⟩)], .int .i64 (x.1 : Int), .agg #[.string (str x.2.1), .string (str x.2.2)], undef, undef, undef, undef, undef, undef], defers := [] })
    (fun x a' _ X Y row hs hg hr => by obtain ⟨Bx, h1, h2, h3⟩ := hs; exact ⟨Bx, h1, h2.kept hg (fun r e => (hr r e).2), h3⟩)
    ?assign ?body ?done ?stop
  case assign =>
    rintro l pre x W K ⟨⟨b1, b2, b3, hx⟩, hB1⟩ hK
    have hs := hB1.size
    have HKP := Lib.hid hK
    have HI := Lib.hid (And.intro (And.intro b1 (And.intro b2 (And.intro b3 hx))) hB1)
    clear hK b1 b2 b3 hx hB1
    simp only [encI]
    gi_wp2
    obtain ⟨⟨b1, b2, b3, hx⟩, hB1⟩ := HI.out
    exact HKP.out _ _ ((KeepsOthers.alloc _ _).from _) ((Below.refl _ W).alloc hs _) ⟨⟨b1.alloc _, b2.alloc _, b3.alloc _, hx⟩, hB1.alloc hs _⟩ ⟨W.heap.size, hs, Blk.new _ _ _, rfl⟩
  case body =>
    rintro l pre x a' W hl hr ⟨⟨b1, b2, b3, hx⟩, hB1⟩ ⟨Bx, hBx, bX, rfl⟩ hlt
    have hs := hB1.size
    have c0 := b1.cell 0
    have d0 := bX.cell 0
    have d1 := bX.cell 1
    simp only [List.getElem?_toArray, List.getElem?_cons_zero, List.getElem?_cons_succ] at c0 d0 d1
    by_cases hk : x.2.1 = k
    · have e1 : ((str x.2.1).toList == (str k).toList) = true := by rw [str_toList, str_toList]; simpa using hk
      have f0 := b2.frozen 0
      have f1 := b2.frozen 1
      have r0 := b2.cell 0
      have r1 := b2.cell 1
      have f2 := b3.frozen 0
      have r2 := b3.cell 0
      simp only [List.getElem?_toArray, List.getElem?_cons_zero, List.getElem?_cons_succ] at r0 r1 r2
      have HI := Lib.hid (And.intro (And.intro b1 (And.intro b2 (And.intro b3 hx))) hB1)
      have HK := Lib.hid hk
      clear hk b1 b2 b3 hx hB1 bX hR0 bK bR bO bS hB0
      gi_wp2
      obtain ⟨⟨b1, b2, b3, hx⟩, hB1⟩ := HI.out
      have hBw : Below w.heap.size w W := HB0.out.trans (hB1.mono (by have := HSZ.out; omega))
      exact ⟨(((KeepsOthers.setCell _ _ _).trans (KeepsOthers.setCell _ _ _)).trans (KeepsOthers.setCell _ _ _)).from _,
        ⟨rfl, pre, x, rfl, hx, HK.out, ((b2.set 0 _ (by decide)).set 1 _ (by simp)).other (by omega) _, ((b3.other (by omega) _).other (by omega) _).set 0 _ (by decide)⟩,
        ((hBw.setCell (p := ⟨w.heap.size + 1, 0, none⟩) (by simp) _).setCell (p := ⟨w.heap.size + 1, 1, none⟩) (by simp) _).setCell (p := ⟨w.heap.size + 1 + 1, 0, none⟩) (by simp; omega) _⟩
    · have e1 : ((str x.2.1).toList == (str k).toList) = false := by rw [str_toList, str_toList]; simpa using hk
      have HI := Lib.hid (And.intro (And.intro b1 (And.intro b2 (And.intro b3 hx))) hB1)
      have HK := Lib.hid hk
      clear hk b1 b2 b3 hx hB1 bX hR0 bK bR bO bS hB0
      gi_wp2
      obtain ⟨⟨b1, b2, b3, hx⟩, hB1⟩ := HI.out
      exact ⟨KeepsFrom.refl _ _, Below.refl _ _, ⟨b1, b2, b3, fun y hy => by
        rcases List.mem_append.1 hy with hy | hy
        · exact hx y hy
        · rw [List.mem_singleton.1 hy]; exact HK.out⟩, hB1⟩
  case done =>
    rintro D ys W hD rfl ⟨⟨b1, b2, b3, hx⟩, hB1⟩ hK
    have f0 := b2.frozen 0
    have f1 := b2.frozen 1
    have r0 := b2.cell 0
    have r1 := b2.cell 1
    have f2 := b3.frozen 0
    have r2 := b3.cell 0
    simp only [List.getElem?_toArray, List.getElem?_cons_zero, List.getElem?_cons_succ] at r0 r1 r2
    have HI := Lib.hid (And.intro (And.intro b1 (And.intro b2 (And.intro b3 hx))) hB1)
    have HK := Lib.hid hK
    clear hK b1 b2 b3 hx hB1 hR0 bK bR bO bS
    gi_wp2
    obtain ⟨⟨b1, b2, b3, hx⟩, hB1⟩ := HI.out
    have hBw : Below w.heap.size w W := HB0.out.trans (hB1.mono (by have := HSZ.out; omega))
    have hK' := (((KeepsOthers.setCell W ⟨w.heap.size + 1, 0, none⟩ (.string ⟨#[]⟩)).trans (KeepsOthers.setCell _ ⟨w.heap.size + 1, 1, none⟩ (.string ⟨#[]⟩))).trans (KeepsOthers.setCell _ ⟨w.heap.size + 1 + 1, 0, none⟩ (.bool false))).same D _ HK.out rfl
    refine ⟨by simp, .inl ⟨_, _, rfl, run_takeDeferred hK', ?_⟩⟩
    have k0 := (((b2.set 0 (.string ⟨#[]⟩) (by decide)).set 1 (.string ⟨#[]⟩) (by decide)).other (b' := w.heap.size + 1 + 1) (i := 0) (by omega) (.bool false)).kept (grownBy_putObj' _ D (.deferred none)) (fun r e => by cases e; exact ⟨_, hK', rfl⟩)
    have k1 := (((b3.other (b' := w.heap.size + 1) (i := 0) (by omega) (.string ⟨#[]⟩)).other (b' := w.heap.size + 1) (i := 1) (by omega) (.string ⟨#[]⟩)).set 0 (.bool false) (by decide)).kept (grownBy_putObj' _ D (.deferred none)) (fun r e => by cases e; exact ⟨_, hK', rfl⟩)
    have hv : lastV rs k = .tuple #[.agg #[.string ⟨#[]⟩, .string ⟨#[]⟩], .bool false] := by
      unfold lastV
      rw [lastD_none fun r hr => ?_]
      · rfl
      · have : r ∈ (backTo rs rs.length).map (·.2) := by rw [backTo_all]; exact List.mem_reverse.2 hr
        obtain ⟨y, hy, rfl⟩ := List.mem_map.1 this
        exact hx y hy
    rw [hv]
    exact ⟨_, ret_rec _ _ (w.heap.size + 1) (w.heap.size + 1 + 1) ⟨#[]⟩ ⟨#[]⟩ false rfl rfl k0 k1, rfl,
      (((hBw.setCell (p := ⟨w.heap.size + 1, 0, none⟩) (by simp) _).setCell (p := ⟨w.heap.size + 1, 1, none⟩) (by simp) _).setCell (p := ⟨w.heap.size + 1 + 1, 0, none⟩) (by simp; omega) _).trans (belowK_b (w := w) (Nat.le_refl _) _ D _ _ (by have := HSZ.out; omega) hK' rfl rfl)⟩
  case stop =>
    rintro D c pre W hD hpre ⟨⟨rfl, pre0, x, rfl, h1, h2, b2, b3⟩, hB⟩ hK
    have HI := Lib.hid (And.intro b2 (And.intro b3 hB))
    have HK := Lib.hid hK
    clear b2 b3 hB hK
    gi_wp2
    obtain ⟨b2, b3, hB⟩ := HI.out
    have hK' := HK.out
    refine ⟨by simp, .inl ⟨_, _, rfl, run_takeDeferred hK', ?_⟩⟩
    have k0 := b2.kept (grownBy_putObj' _ D (.deferred none)) (fun r e => by cases e; exact ⟨_, hK', rfl⟩)
    have k1 := b3.kept (grownBy_putObj' _ D (.deferred none)) (fun r e => by cases e; exact ⟨_, hK', rfl⟩)
    have hv : lastV rs k = .tuple #[.agg #[.string (str x.2.1), .string (str x.2.2)], .bool true] := by
      obtain ⟨rest, hrest⟩ := hpre
      have e := backTo_all rs
      rw [← hrest, List.map_append, List.map_append, List.map_singleton, List.append_assoc, List.singleton_append] at e
      unfold lastV
      rw [lastD_rev e.symm (fun r hr => by obtain ⟨y, hy, rfl⟩ := List.mem_map.1 hr; exact h1 y hy) h2, ← h2]
      rfl
    rw [hv]
    exact ⟨_, ret_rec _ _ (w.heap.size + 1) (w.heap.size + 1 + 1) _ _ true rfl rfl k0 k1, rfl, hB.trans (belowK_b (w := w) (Nat.le_refl _) _ D _ _ (by have := HSZ.out; omega) hK' rfl rfl)⟩
end Go.Proofs.YtfmhdkemigpjjaaDoor.Attr
