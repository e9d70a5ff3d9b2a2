/- What is global, in memory: a state, what counts of a key, what is added. -/
import Derived.Test.YtfmhdkemigpjjaaDoorAttrLast
import Derived.Test.YtfmhdkemigpjjaaDoorMapK
import Derived.StillTailTactics
import Derived.WalkSpells
namespace Go.Proofs.YtfmhdkemigpjjaaDoor.Attr
open Go.ChangeShapes Go.WideShapes Go.ChangeAt Go.RowKit Go.Shelf Go.Proofs.YtfmhdkemigpjjaaDoor.Base Go.Proofs.YtfmhdkemigpjjaaDoor.Byt Go.Proofs.YtfmhdkemigpjjaaDoor.Txt Go.Proofs.YtfmhdkemigpjjaaDoor.Rec Go.Proofs.YtfmhdkemigpjjaaDoor.Bk Go.Proofs.YtfmhdkemigpjjaaDoor.Mk Go.Lib
set_option linter.unusedVariables false
set_option maxRecDepth 100000

abbrev Glob := List UInt8 → Option (List UInt8)
def recF (F : Glob) : List UInt8 → Option Value := fun k => (F k).map fun v => .agg (recC k v)
/-- block g is a state, its map is mb; F is what is global -/
def St (w : World) (g : Nat) (mb : Option Nat) (F : Glob) : Prop :=
  Blk w g 31 #[.map mb] ∧ (mb = none → F = noneF) ∧ ∀ B, mb = some B → MapK strK w B (recF F)
/-- a state, or none -/
def StP (w : World) (p : Option Addr) (F : Glob) : Prop := (p = none ∧ F = noneF) ∨ ∃ g mb, p = some ⟨g, 0, none⟩ ∧ St w g mb F
/-- the blocks of a state -/
def stB (g : Nat) (mb : Option Nat) : Nat → Prop := fun k => k = g ∨ mb = some k
section
variable {w w' : World} {g : Nat} {mb : Option Nat} {F : Glob} {p : Option Addr}
theorem St.lt (h : St w g mb F) : g < w.heap.size := h.1.lt
theorem St.ltB (h : St w g mb F) {B : Nat} (hB : mb = some B) : B < w.heap.size := (h.2.2 B hB).lt
theorem St.kept {S : Nat → Prop} (h : St w g mb F) (hk : Kept S w w') (hn : ∀ k, stB g mb k → ¬ S k) : St w' g mb F :=
  ⟨h.1.keptS hk (hn g (.inl rfl)), h.2.1, fun B hB => (h.2.2 B hB).kept hk (hn B (.inr hB))⟩
theorem St.below (h : St w g mb F) (hb : Below w.heap.size w w') : St w' g mb F := h.kept (Kept.of_below hb noneB) (fun _ _ => id)
theorem StP.below (h : StP w p F) (hb : Below w.heap.size w w') : StP w' p F := h.imp id fun ⟨g, mb, hp, hs⟩ => ⟨g, mb, hp, hs.below hb⟩
theorem St.new (w : World) : St (w.alloc (.cells #[.map none] 31)) w.heap.size none noneF := ⟨Blk.new w _ _, fun _ => rfl, fun _ h => by cases h⟩
theorem St.ptr (h : St w g mb F) : StP w (some ⟨g, 0, none⟩) F := .inr ⟨g, mb, rfl, h⟩
theorem StP.nil (w : World) : StP w none noneF := .inl ⟨rfl, rfl⟩
/-- records lie in no block of a state -/
theorem recs_off {p : Option Addr} {n : Nat} {rs : RecL} (h : St w g mb F) (hr : RecsAt w p n rs) (h0 : 0 < n) {a : Addr} (ha : p = some a) : ¬ stB g mb a.block := by
  obtain ⟨b, o, rfl, hb, hc⟩ := hr.2 h0
  cases ha
  have c0 := (hc 0 h0).1
  rintro (e | e)
  · subst e
    rw [h.1.cell] at c0
    rcases Nat.eq_zero_or_pos o with rfl | ho
    · simp at c0
    · rw [Array.getElem?_eq_none (by simp; omega)] at c0; cases c0
  · obtain ⟨es, clock, hm, _⟩ := h.2.2 _ e
    simp [World.cell?, hm] at c0
theorem recsAt_kept {S : Nat → Prop} {p : Option Addr} {n : Nat} {rs : RecL} (hr : RecsAt w p n rs) (hk : Kept S w w') (hn : 0 < n → ∀ a, p = some a → ¬ S a.block) : RecsAt w' p n rs := by
  refine ⟨hr.1, fun h0 => ?_⟩
  obtain ⟨b, o, rfl, hb, hc⟩ := hr.2 h0
  have e := hk.block b hb (hn h0 _ rfl)
  exact ⟨b, o, rfl, Nat.lt_of_lt_of_le hb hk.size, fun i hi => ⟨by rw [World.cell?_of_block e]; exact (hc i hi).1, by rw [World.cell?_of_block e]; exact (hc i hi).2⟩⟩
theorem recZero (w : World) : (zeroValue 43).run Tryd.prog w = .ok (.agg #[.string ⟨#[]⟩, .string ⟨#[]⟩]) w := Tryd.zeroValue43 w
theorem recValue (w : World) (a b : ByteArray) : (Instr.field 43 (.agg #[.string a, .string b]) 1).run Tryd.prog w = .ok (.string b) w := by
  kernel_rfl
theorem st_look (h : St w g mb F) (k : List UInt8) :
    ∃ x : ByteArray, (Instr.lookup 29 (.map mb) (.string (str k)) false).run Tryd.prog w = .ok (.agg #[.string x, .string (str ((F k).getD []))]) w := by
  cases mb with
  | none =>
    refine ⟨⟨#[]⟩, ?_⟩
    rw [h.2.1 rfl]
    exact look_nil (K := strK) Tryd.underlying29 Tryd.underlying9 recZero k w
  | some B =>
    have hl := (h.2.2 B rfl).look Tryd.underlying29 Tryd.underlying9 recZero k
    cases hf : F k with
    | none =>
      refine ⟨⟨#[]⟩, ?_⟩
      rw [show recF F k = none by unfold recF; rw [hf]; rfl] at hl
      exact hl
    | some v =>
      refine ⟨str k, ?_⟩
      rw [show recF F k = some (.agg (recC k v)) by unfold recF; rw [hf]; rfl] at hl
      exact hl
end
set_option maxHeartbeats 1000000 in
theorem value_any (s : Option Addr) (F : Glob) (k : List UInt8) (p : Option Addr) (n c : Nat) (rs : RecL) (w : World) (hs : StP w s F) (hn : n ≤ 4611686018427387904) (h : RecsAt w p n rs) :
    Calls Tryd.prog 12 #[.pointer s, .string (str k), .slice p n c] w fun e w' => e = .returned (.string (str (valueD F rs k))) ∧ Below w.heap.size w w' := by
  have hl := last_any k p n c rs w hn h
  have HS := Lib.hid hs
  clear hs h hn
  unfold valueD
  cases hr : lastD rs k with
  | some v =>
    rw [show lastV rs k = .tuple #[.agg #[.string (str k), .string (str v)], .bool true] by unfold lastV; rw [hr]; rfl] at hl
    clear hr
    go_enter Tryd.func12, Tryd.ntmps12
    go_wp2_with fail
    refine hl.mono ?_
    rintro e w1 ⟨rfl, hB⟩
    have HB := Lib.hid hB
    clear hB hl
    go_wp2
    go_ret
    exact ⟨rfl, HB.out.alloc HB.out.size _⟩
  | none =>
    rw [show lastV rs k = .tuple #[.agg #[.string ⟨#[]⟩, .string ⟨#[]⟩], .bool false] by unfold lastV; rw [hr]; rfl] at hl
    clear hr
    rcases HS.out with ⟨rfl, rfl⟩ | ⟨g, mb, rfl, hst⟩
    · go_enter Tryd.func12, Tryd.ntmps12
      go_wp2_with fail
      refine hl.mono ?_
      rintro e w1 ⟨rfl, hB⟩
      have HB := Lib.hid hB
      clear hB hl
      go_wp2
      go_ret
      exact ⟨rfl, HB.out.alloc HB.out.size _⟩
    · have HST := Lib.hid hst
      clear hst
      go_enter Tryd.func12, Tryd.ntmps12
      go_wp2_with fail
      refine hl.mono ?_
      rintro e w1 ⟨rfl, hB⟩
      have hst2 := HST.out.below (hB.alloc hB.size (.cells #[.string ⟨#[]⟩, .string ⟨#[]⟩] 43))
      obtain ⟨a, hlook⟩ := st_look hst2 k
      have c0 := hst2.1.cell 0
      simp only [List.getElem?_toArray, List.getElem?_cons_zero] at c0
      have HB := Lib.hid hB
      have hfld := fun w => recValue w a (str ((F k).getD []))
      clear hB hl hst2
      go_wp2
      go_ret
      exact ⟨rfl, HB.out.alloc HB.out.size _⟩
theorem global_nil (p : Option Addr) (n c : Nat) (w : World) :
    Calls Tryd.prog 9 #[.pointer none, .slice p n c] w fun e w' => e = .returned (.tuple #[]) ∧ w = w' := by
  go_enter Tryd.func9, Tryd.ntmps9
  go_wp2
  refine bodyPost_ret (results_none rfl _ _ _) rfl ?_
  exact ⟨rfl, rfl⟩
/-- what Global leaves -/
def GlobPost (w : World) (g : Nat) (mb : Option Nat) (F : Glob) (rs : RecL) (e : Ending) (w' : World) : Prop :=
  e = .returned (.tuple #[]) ∧ ∃ B, St w' g (some B) (moreF F rs) ∧ Kept (stB g mb) w w' ∧ (mb = some B ∨ w.heap.size ≤ B)
theorem recF_more (F : Glob) (rs : RecL) (k v : List UInt8) : (fun y => if y = k then some (Value.agg (recC k v)) else recF (moreF F rs) y) = recF (moreF F (rs ++ [(k, v)])) := by
  funext y
  rw [moreF_snoc]
  unfold recF
  by_cases h : y = k
  · subst h; simp
  · simp [h]
theorem take_one (rs : RecL) (j : Nat) (hj : j < rs.length) : rs.take (j + 1) = rs.take j ++ [rs.getD j ([], [])] := by
  rw [List.take_add_one]
  simp [List.getD, hj]
theorem St.ne {w : World} {g B : Nat} {F : Glob} (h : St w g (some B) F) : ¬ oneB B g := fun e => by
  obtain ⟨es, clock, hm, _⟩ := h.2.2 B rfl
  have e : g = B := e
  have h1 := h.1
  unfold Blk at h1
  rw [e, hm] at h1
  cases h1
set_option maxHeartbeats 2000000 in
/-- the state has a map -/
theorem global_map (g B : Nat) (F : Glob) (p : Option Addr) (n c : Nat) (rs : RecL) (w : World) (hs : St w g (some B) F) (hn : n ≤ 4611686018427387904) (h : RecsAt w p n rs) :
    Calls Tryd.prog 9 #[.pointer (some ⟨g, 0, none⟩), .slice p n c] w (GlobPost w g (some B) F rs) := by
  have HS := Lib.hid hs
  have HR := Lib.hid h
  have HL := Lib.hid h.1
  have c0 := hs.1.cell 0
  simp only [List.getElem?_toArray, List.getElem?_cons_zero] at c0
  have HF : Hid (∀ wr, Kept (stB g (some B)) w wr → Kept (stB g (some B)) w wr) := Lib.hid (fun _ h => h)
  have HBB : Hid (some B = some B ∨ w.heap.size ≤ B) := Lib.hid (.inl rfl)
  clear hs h
  have hem := fun w => run_eql_map_nil (P := Tryd.prog) w 29 _ _ (some B) Tryd.underlying29
  simp only [Option.isNone_some] at hem
  go_enter Tryd.func9, Tryd.ntmps9
  go_wp2_with fail
  clear c0 hem
  go_loopw [19] (fun i wr => ∃ (j : Nat), j ≤ n ∧ i = .int .i64 (j : Int) ∧ Hid (St wr g (some B) (moreF F (rs.take j)) ∧ RecsAt wr p n rs ∧ Kept (stB g (some B)) w wr)) (fun i _ => n - (RowKit.intOf i).toNat)
  case atStart => exact ⟨0, Nat.zero_le _, rfl, Lib.hid ⟨by rw [List.take_zero, moreF_nil]; exact HS.out, HR.out, Kept.refl _ _⟩⟩
  case round =>
    obtain ⟨j, hj, rfl, hI⟩ := hrel
    by_cases hlt : j < n
    · obtain ⟨hst, hrs, hk⟩ := hI.out
      have hltz : (j : Int) < (n : Int) := by omega
      obtain ⟨b, o, rfl, hb, hc⟩ := hrs.2 (by omega)
      obtain ⟨x0, x1⟩ := hc j hlt
      obtain ⟨⟨rk, rv⟩, hr⟩ : ∃ u, rs.getD j ([], []) = u := ⟨_, rfl⟩
      rw [hr, Nat.mul_comm] at x0 x1
      simp only at x0 x1
      have hst2 := hst.below ((Below.refl _ wr).alloc (Nat.le_refl _) (.cells #[.string (str rk), .string (str rv)] 43))
      have hrs2 := hrs.below ((Below.refl _ wr).alloc (Nat.le_refl _) (.cells #[.string (str rk), .string (str rv)] 43))
      have hk2 := hk.alloc (.cells #[.string (str rk), .string (str rv)] 43)
      have d0 := hst2.1.cell 0
      simp only [List.getElem?_toArray, List.getElem?_cons_zero] at d0
      obtain ⟨r0, r1⟩ := cells2 wr 43 (.string (str rk)) (.string (str rv))
      have HI := Lib.hid (And.intro hst2 (And.intro hrs2 hk2))
      have HRR := Lib.hid hr
      clear hst hrs hk hb hc hr hst2 hrs2 hk2 hI
      go_wp2_with fail
      obtain ⟨w4, hw4⟩ : ∃ w4, wr.alloc (.cells #[.string (str rk), .string (str rv)] 43) = w4 := ⟨_, rfl⟩
      rw [hw4] at d0 HI r0 r1 ⊢
      clear hw4 x0 x1
      go_still_tail 7, (by kernel_rfl)
      refine wpList_putK (K := strK) rfl (.tmp 26) (.tmp 28) (.tmp 29) rfl Tryd.underlying29 Tryd.underlying9 B ((HI.out.1.2.2 B rfl).kept (Kept.refl noneB w4).drew id) rfl rk rfl (.agg (recC rk rv)) rfl ?_
      intro w5 hm5 hk5 hs5
      have HN : Hid (St w5 g (some B) (moreF F (rs.take (j + 1))) ∧ RecsAt w5 (some ⟨b, o, none⟩) n rs ∧ Kept (stB g (some B)) w w5) := by
        obtain ⟨hst, hrs, hk⟩ := HI.out
        have hk' : Kept (oneB B) w4 w5 := ((Kept.refl (oneB B) w4).drew).trans hk5.out
        refine Lib.hid ⟨⟨hst.1.keptS hk' hst.ne, (fun h => by cases h), fun B' h => ?_⟩, recsAt_kept hrs hk' (fun h0 a ha e => recs_off hst hrs h0 ha (.inr (by rw [show a.block = B from e]))), hk.then hk' (fun i hi => .inr (.inr (by rw [show i = B from hi])))⟩
        cases h
        rw [take_one rs j (by rw [HL.out]; exact hlt), HRR.out, ← recF_more]
        exact hm5.out
      clear hm5 hk5 hs5
      go_wp2
      go_roundw
      case rel => exact ⟨j + 1, by omega, by go_num, HN⟩
      case measure => simp [RowKit.intOf]; omega
    · obtain rfl : j = n := by omega
      have hltz : ¬ ((j : Int) < (j : Int)) := by omega
      go_wp2
      go_end0
      have hI := hI.out
      rw [List.take_of_length_le (by rw [HL.out]; exact Nat.le_refl _)] at hI
      exact ⟨rfl, B, hI.1, HF.out _ hI.2.2, by first | exact HBB.out | exact .inl rfl⟩
set_option maxHeartbeats 2000000 in
/-- it has none as yet -/
theorem global_none (g : Nat) (p : Option Addr) (n c : Nat) (rs : RecL) (w : World) (hs : St w g none noneF) (hn : n ≤ 4611686018427387904) (h : RecsAt w p n rs) :
    Calls Tryd.prog 9 #[.pointer (some ⟨g, 0, none⟩), .slice p n c] w (GlobPost w g none noneF rs) := by
  have c0 := hs.1.cell 0
  simp only [List.getElem?_toArray, List.getElem?_cons_zero] at c0
  have f0 := hs.1.frozen 0
  have f1 := (hs.1.alloc (.map #[] 0)).frozen 0
  have c1 := (hs.1.alloc (.map #[] 0)).cell 0
  simp only [List.getElem?_toArray, List.getElem?_cons_zero] at c1
  have hmm := @run_makeMap Tryd.prog
  have hem := fun w => run_eql_map_nil (P := Tryd.prog) w 29 _ _ none Tryd.underlying29
  simp only [Option.isNone_none] at hem
  have hgl : g < w.heap.size := hs.lt
  obtain ⟨F, hF⟩ : ∃ F, F = noneF := ⟨_, rfl⟩
  have hka : Kept (stB g none) w ((w.alloc (.map #[] 0)).setCell ⟨g, 0, none⟩ (.map (some w.heap.size))) := ((Kept.refl (stB g none) w).alloc _).setCell (a := ⟨g, 0, none⟩) (.inr (.inl rfl)) _
  have hra := recsAt_kept h hka (fun h0 a ha => recs_off hs h h0 ha)
  have hsa : St ((w.alloc (.map #[] 0)).setCell ⟨g, 0, none⟩ (.map (some w.heap.size))) g (some w.heap.size) F := by
    refine ⟨(hs.1.alloc (.map #[] 0)).set 0 _ (by decide), (fun h => by cases h), fun B' hB => ?_⟩
    cases hB
    have hm := (mapK_made strK w).kept (((Kept.refl (oneB g) (w.alloc (.map #[] 0)))).setCell (a := ⟨g, 0, none⟩) (.inr rfl) (.map (some w.heap.size))) (fun e => by have : w.heap.size = g := e; omega)
    rw [hF]
    exact hm
  have HF : Hid (∀ wr, Kept (stB g (some w.heap.size)) ((w.alloc (.map #[] 0)).setCell ⟨g, 0, none⟩ (.map (some w.heap.size))) wr → Kept (stB g none) w wr) := Lib.hid (fun wr h => hka.then h (fun i hi => by
    rcases hi with hi | hi
    · exact .inr (.inl hi)
    · cases hi; exact .inl (Nat.le_refl _)))
  have HBB : Hid ((none : Option Nat) = some w.heap.size ∨ w.heap.size ≤ w.heap.size) := Lib.hid (.inr (Nat.le_refl _))
  have HL := Lib.hid h.1
  have HS := Lib.hid hsa
  have HR := Lib.hid hra
  rw [← hF]
  clear hsa hra hka h hs hgl hF
  go_enter Tryd.func9, Tryd.ntmps9
  go_wp2_with fail
  obtain ⟨W0, hW0⟩ : ∃ W0, (w.alloc (.map #[] 0)).setCell ⟨g, 0, none⟩ (.map (some w.heap.size)) = W0 := ⟨_, rfl⟩
  obtain ⟨B, hB⟩ : ∃ B, w.heap.size = B := ⟨_, rfl⟩
  rw [hW0, hB] at HS HF
  rw [hW0] at HR ⊢
  rw [hB]
  clear HBB
  have HBB : Hid ((none : Option Nat) = some B ∨ w.heap.size ≤ B) := Lib.hid (.inr (by omega))
  clear c0 f0 c1 f1 hem hmm hW0 hB
  go_loopw [19] (fun i wr => ∃ (j : Nat), j ≤ n ∧ i = .int .i64 (j : Int) ∧ Hid (St wr g (some B) (moreF F (rs.take j)) ∧ RecsAt wr p n rs ∧ Kept (stB g (some B)) W0 wr)) (fun i _ => n - (RowKit.intOf i).toNat)
  case atStart => exact ⟨0, Nat.zero_le _, rfl, Lib.hid ⟨by rw [List.take_zero, moreF_nil]; exact HS.out, HR.out, Kept.refl _ _⟩⟩
  case round =>
    obtain ⟨j, hj, rfl, hI⟩ := hrel
    by_cases hlt : j < n
    · obtain ⟨hst, hrs, hk⟩ := hI.out
      have hltz : (j : Int) < (n : Int) := by omega
      obtain ⟨b, o, rfl, hb, hc⟩ := hrs.2 (by omega)
      obtain ⟨x0, x1⟩ := hc j hlt
      obtain ⟨⟨rk, rv⟩, hr⟩ : ∃ u, rs.getD j ([], []) = u := ⟨_, rfl⟩
      rw [hr, Nat.mul_comm] at x0 x1
      simp only at x0 x1
      have hst2 := hst.below ((Below.refl _ wr).alloc (Nat.le_refl _) (.cells #[.string (str rk), .string (str rv)] 43))
      have hrs2 := hrs.below ((Below.refl _ wr).alloc (Nat.le_refl _) (.cells #[.string (str rk), .string (str rv)] 43))
      have hk2 := hk.alloc (.cells #[.string (str rk), .string (str rv)] 43)
      have d0 := hst2.1.cell 0
      simp only [List.getElem?_toArray, List.getElem?_cons_zero] at d0
      obtain ⟨r0, r1⟩ := cells2 wr 43 (.string (str rk)) (.string (str rv))
      have HI := Lib.hid (And.intro hst2 (And.intro hrs2 hk2))
      have HRR := Lib.hid hr
      clear hst hrs hk hb hc hr hst2 hrs2 hk2 hI
      go_wp2_with fail
      obtain ⟨w4, hw4⟩ : ∃ w4, wr.alloc (.cells #[.string (str rk), .string (str rv)] 43) = w4 := ⟨_, rfl⟩
      rw [hw4] at d0 HI r0 r1 ⊢
      clear hw4 x0 x1
      go_still_tail 7, (by kernel_rfl)
      refine wpList_putK (K := strK) rfl (.tmp 26) (.tmp 28) (.tmp 29) rfl Tryd.underlying29 Tryd.underlying9 B ((HI.out.1.2.2 B rfl).kept (Kept.refl noneB w4).drew id) rfl rk rfl (.agg (recC rk rv)) rfl ?_
      intro w5 hm5 hk5 hs5
      have HN : Hid (St w5 g (some B) (moreF F (rs.take (j + 1))) ∧ RecsAt w5 (some ⟨b, o, none⟩) n rs ∧ Kept (stB g (some B)) W0 w5) := by
        obtain ⟨hst, hrs, hk⟩ := HI.out
        have hk' : Kept (oneB B) w4 w5 := ((Kept.refl (oneB B) w4).drew).trans hk5.out
        refine Lib.hid ⟨⟨hst.1.keptS hk' hst.ne, (fun h => by cases h), fun B' h => ?_⟩, recsAt_kept hrs hk' (fun h0 a ha e => recs_off hst hrs h0 ha (.inr (by rw [show a.block = B from e]))), hk.then hk' (fun i hi => .inr (.inr (by rw [show i = B from hi])))⟩
        cases h
        rw [take_one rs j (by rw [HL.out]; exact hlt), HRR.out, ← recF_more]
        exact hm5.out
      clear hm5 hk5 hs5
      go_wp2
      go_roundw
      case rel => exact ⟨j + 1, by omega, by go_num, HN⟩
      case measure => simp [RowKit.intOf]; omega
    · obtain rfl : j = n := by omega
      have hltz : ¬ ((j : Int) < (j : Int)) := by omega
      go_wp2
      go_end0
      have hI := hI.out
      rw [List.take_of_length_le (by rw [HL.out]; exact Nat.le_refl _)] at hI
      exact ⟨rfl, B, hI.1, HF.out _ hI.2.2, by first | exact HBB.out | exact .inl rfl⟩
theorem global_any (g : Nat) (mb : Option Nat) (F : Glob) (p : Option Addr) (n c : Nat) (rs : RecL) (w : World) (hs : St w g mb F) (hn : n ≤ 4611686018427387904) (h : RecsAt w p n rs) :
    Calls Tryd.prog 9 #[.pointer (some ⟨g, 0, none⟩), .slice p n c] w (GlobPost w g mb F rs) := by
  cases mb with
  | some B => exact global_map g B F p n c rs w hs hn h
  | none =>
    obtain rfl := hs.2.1 rfl
    exact global_none g p n c rs w hs hn h
end Go.Proofs.YtfmhdkemigpjjaaDoor.Attr
