/- The walk over BlockNone: it returns true for every input, and writes nothing that was there. -/
import Derived.Test.YtindibabpfdljaaDoorBlockRes
import Derived.Deep.RegionHeldLaw
namespace Go.Proofs.YtindibabpfdljaaDoor.Walk
open Go.ChangeShapes Go.WideShapes Go.ChangeAt Go.RowKit Go.Proofs.YtindibabpfdljaaDoor.Base Go.Proofs.YtindibabpfdljaaDoor.Byt Go.Proofs.YtindibabpfdljaaDoor.Num Go.Proofs.YtindibabpfdljaaDoor.Block Go.Lib
set_option linter.unusedVariables false

/-- Put of one list -/
theorem put1_any (w : World) (g B : Nat) (v : Value) (X : List UInt8) (h : Snk w g B v X) (hB : B ≤ w.heap.size) (q1 : Option Addr) (m1 c1 : Nat) (x1 : List UInt8)
    (h1 : BAt w q1 m1 x1) (l1 : x1.length = m1) (o1 : 0 < m1 → ∀ x, q1 = some x → v.ownBlock ≠ some x.block) (hsum : X.length + m1 ≤ 140737488351232) :
    Calls Tryd.prog 17 #[.pointer (some ⟨g, 0, none⟩), .slice (some ⟨w.heap.size, 0, none⟩) 1 1] (w.alloc (.cells #[.slice q1 m1 c1] 22)) (PutPost w g B v X x1) := by
  have hk : Byt.Kept noneB w (w.alloc (.cells #[.slice q1 m1 c1] 22)) := (Byt.Kept.refl _ w).alloc _
  have hcat := catB_one x1
  rw [← hcat]
  refine (sput_any _ g B v X (h.kept hk id (fun _ _ => id)) (Nat.le_trans hB hk.size) _ 1 1 (fun _ => q1) (fun _ => m1) (fun _ => c1) (fun _ => x1) ?_ (by decide) ?_ ?_ ?_).mono ?_
  · intro _
    refine ⟨w.heap.size, 0, rfl, by simp, fun i hi => ?_⟩
    match i, hi with
    | 0, _ => exact ⟨by simp, h1.kept hk (fun _ _ _ => id), l1⟩
  · intro _ x hx
    cases hx
    have h3 := h.lt
    refine ⟨by show w.heap.size ≠ g; omega, fun e => ?_⟩
    have : w.heap.size < w.heap.size := (h.own.lt _ e).2
    omega
  · intro i hi
    match i, hi with
    | 0, _ => exact o1
  · rw [hcat, List.length_append, l1]; omega
  · rintro e w' ⟨v', h3, h4, h5, h6⟩
    exact ⟨v', h3, h4, (hk.of_none _).trans h5, fun k hk' => by
      rcases h6 k hk' with h7 | h7
      · exact Or.inl h7
      · exact Or.inr (Nat.le_trans hk.size h7)⟩
/-- a row of the call's own whose bytes are turned one by one -/
def TurnInv (w0 : World) (B : Nat) (v : Value) (n : Nat) (wr : World) : Prop := (∃ ys : List Int, wr.ownsRow B 5 1 v n (ys.map (Value.int .u8))) ∧ Byt.Kept (fun k => v.ownBlock = some k) w0 wr
theorem turn_start {w : World} {B : Nat} {v : Value} {n : Nat} {bs : List UInt8} (h : OwnB w B v n bs) : TurnInv w B v n w := ⟨⟨nums bs, h⟩, Byt.Kept.refl _ _⟩
theorem TurnInv.cell {w0 wr : World} {B : Nat} {p : Option Addr} {n c : Nat} (h : TurnInv w0 B (.slice p n c) n wr) (j : Nat) (hj : j < n) : ∃ g x, p = some ⟨g, 0, none⟩ ∧ wr.cell? ⟨g, j, none⟩ = some (.int .u8 x) ∧ wr.frozen? ⟨g, j, none⟩ = false := by
  obtain ⟨⟨ys, ho⟩, _⟩ := h
  have ho' := ho
  have hl : ys.length = n := by have := ho.1; simpa using this
  rcases ho.2 with ⟨_, h0⟩ | ⟨g, cap, cur, hv, _⟩
  · omega
  · cases hv
    refine ⟨g, ys.getD j 0, rfl, ?_, ho'.frozenAt j⟩
    rw [ho'.cellAt j (by omega), List.getElem?_map, List.getElem?_eq_getElem (by omega)]
    simp [List.getD, hl, hj]
theorem TurnInv.store {w0 wr : World} {B : Nat} {g n c : Nat} (h : TurnInv w0 B (.slice (some ⟨g, 0, none⟩) n c) n wr) (j : Nat) (y : Int) : TurnInv w0 B (.slice (some ⟨g, 0, none⟩) n c) n (wr.setCell ⟨g, j, none⟩ (.int .u8 y)) := by
  obtain ⟨⟨ys, ho⟩, hk⟩ := h
  have := (ho.stored j (.int .u8 y)).1
  rw [← List.map_set] at this
  exact ⟨⟨_, this⟩, hk.setCell (a := ⟨g, j, none⟩) (Or.inr rfl) _⟩
set_option maxRecDepth 100000 in
set_option maxHeartbeats 4000000 in
theorem blockNone' (a0 : Option Addr) (n cap0 : Nat) (bs : List UInt8) (N : Int) (w : World) (hb : BAt w a0 n bs) (hl : bs.length = n) (hc0 : n ≤ cap0) (hcm : cap0 ≤ 140737488351232) :
    Calls Tryd.prog 6 #[.slice a0 n cap0, .int .i64 N] w fun e w' => e = .returned (.bool true) ∧ Below w.heap.size w w' := by
  obtain ⟨i0, hi, hz0, hz1, hz2⟩ := info_parts infoU8
  have HI := Lib.hid hi
  have HZ0 := Lib.hid hz0
  have HZ1 := Lib.hid hz1
  have HZ2 := Lib.hid hz2
  have HB := Lib.hid hb
  have HL := Lib.hid hl
  clear hi hz0 hz1 hz2 hb hl
  by_cases hbig : 2000 < n
  · go_enter Tryd.func6, Tryd.ntmps6
    go_wp2_with fail
    refine (ans03_any _).mono ?_
    rintro e w2 ⟨rfl, hk⟩
    have HK := Lib.hid hk
    clear hk
    go_wp2
    go_ret
    exact ⟨rfl, HK.out.below (Nat.le_refl _) (fun _ h => h.elim)⟩
  · have hn : n ≤ 2000 := by omega
    clear hbig
    go_enter Tryd.func6, Tryd.ntmps6
    go_wp2_with fail
    refine (sput_nil _ _).mono ?_
    rintro e w1 ⟨rfl, rfl⟩
    go_wp2_with fail
    refine (sbody_nil _ a0 n cap0 (by omega)).mono ?_
    rintro e w2 ⟨rfl, hk2⟩
    have HK2 := Lib.hid (((Byt.Kept.refl noneB w).alloc (.cells #[.slice a0 n cap0] 22)).trans hk2)
    clear hk2
    go_wp2_with fail
    refine (end_nil _).mono ?_
    rintro e w3 ⟨rfl, hk3⟩
    have HK3 := Lib.hid (HK2.out.trans hk3)
    clear hk3
    go_wp2_with fail
    refine (block_nil _).mono ?_
    rintro e w4 ⟨rfl, rfl⟩
    go_wp2_with fail
    refine (body_nil _ N).mono ?_
    rintro e w4 ⟨rfl, rfl⟩
    go_wp2_with (at_builtin; refine append_bytes rfl _ _ 22 rfl w3.heap.size 5 i0 Tryd.underlying22 HI.out HZ0.out HZ1.out HZ2.out _ 0 [] rfl (World.ownsRow_made w3 #[] 0 (Nat.le_refl _) (by decide) rfl) a0 n cap0 bs rfl ((HB.out.kept HK3.out (fun _ _ _ => id)).alloc _) HL.out ?d2 ?d3 ?_)
    case d2 => omega
    case d3 => simp
    intro v4 w4 hown4 hgrow4
    have ho4 : OwnB w4 w3.heap.size v4 n bs := by
      unfold OwnB
      simpa using hown4
    have HO4 := Lib.hid ho4
    have HK4 := Lib.hid (HK3.out.trans (((Byt.Kept.refl noneB w3).alloc (.cells #[] 5)).grown hgrow4 (by intro k hk; simp [Value.ownBlock] at hk; omega)))
    obtain ⟨p4, c4, rfl, _, _, hb4, _, hown4b⟩ := ho4.slice
    have HB4 := Lib.hid hb4
    have HOB4 := Lib.hid hown4b
    clear hown4 hgrow4 ho4 hb4 hown4b
    have HS5 := Lib.hid (snk_new w4 w4.heap.size)
    have HPUT := Lib.hid (put1_any (w4.alloc (.cells #[.slice none 0 0] 43)) w4.heap.size w4.heap.size (.slice none 0 0) [] HS5.out (by simp only [World.size_alloc]; omega) p4 n c4 bs (HB4.out.alloc _) HL.out (fun _ _ _ e => by cases e) (by simp only [List.length_nil]; omega))
    have hsz : (w4.alloc (.cells #[.slice none 0 0] 43)).heap.size = w4.heap.size + 1 := World.size_alloc _ _
    rw [hsz] at HPUT
    clear hsz
    go_wp2_with fail
    refine HPUT.out.mono ?_
    rintro e w6 ⟨v6, rfl, hs6, hk6, hn6⟩
    rw [List.nil_append] at hs6
    have hk46 : Byt.Kept (oneB w4.heap.size) w4 w6 := ((Byt.Kept.refl _ w4).alloc _).then hk6 (fun i hi => by
      rcases hi with hi | hi
      · exact Or.inr hi
      · cases hi)
    have hinlt : ∀ k, (Value.slice p4 n c4).ownBlock = some k → w3.heap.size ≤ k ∧ k < w4.heap.size := HO4.out.lt
    have HINLT := Lib.hid hinlt
    have HS6 := Lib.hid hs6
    have HO6 := Lib.hid (HO4.out.kept hk46 (fun k hk e => by
      have h1 := (hinlt k hk).2
      have h2 : k = w4.heap.size := e
      omega))
    have HV6 : Hid (∀ k, (Value.slice p4 n c4).ownBlock = some k → v6.ownBlock ≠ some k) := Lib.hid (fun k hk e => by
      have h1 := (hinlt k hk).2
      rcases hn6 k e with h2 | h2
      · cases h2
      · rw [World.size_alloc] at h2; omega)
    have HK6 := Lib.hid (HK4.out.then hk46 (fun i hi => Or.inl (by
      have h1 := HK4.out.size
      have h2 : i = w4.heap.size := hi
      omega)))
    have H46 : Hid (w4.heap.size ≤ w6.heap.size) := Lib.hid hk46.size
    obtain ⟨_, _, hv6, _, _, hb6, _, _⟩ := HO6.out.slice
    cases hv6
    have HB6 := Lib.hid hb6
    clear hs6 hk6 hn6 hk46 hinlt hb6
    go_wp2_with fail
    refine (new_any w6 p4 n c4 bs none 0 0 [] HB6.out HL.out (by omega) (fun h => absurd h (by omega)) rfl (by omega)).mono ?_
    rintro e w7 ⟨gs, S, rfl, hgs, hSb, hSn, _, hoff, hnp, hnq, hs7, hk7⟩
    have HGS := Lib.hid hgs
    have HSB := Lib.hid hSb
    have HSN : Hid (S.n = n) := Lib.hid (by rw [hSn, HL.out])
    have HOFF := Lib.hid hoff
    have HNP := Lib.hid hnp
    have HNQ := Lib.hid hnq
    have HS7 := Lib.hid hs7
    have HK7 := Lib.hid (HK6.out.trans hk7)
    have HSK7 := Lib.hid (HS6.out.kept hk7 id (fun _ _ => id))
    have HT7 := Lib.hid (turn_start (HO6.out.kept hk7 (fun _ _ => id)))
    have H67 : Hid (w6.heap.size ≤ w7.heap.size) := Lib.hid hk7.size
    clear hgs hSb hSn hoff hnp hnq hs7 hk7
    go_wp2_with fail
    go_loopw [14] (fun i w8 => ∃ j : Nat, j ≤ n ∧ i = .int .i64 j ∧ Hid (TurnInv w7 w3.heap.size (.slice p4 n c4) n w8)) (fun i _ => n - (RowKit.intOf i).toNat)
    case atStart => exact ⟨0, by omega, rfl, HT7⟩
    case round =>
      obtain ⟨j, hj, rfl, hT⟩ := hrel
      by_cases hjn : j < n
      · obtain ⟨g4, x, rfl, hcell, hfr⟩ := hT.out.cell j hjn
        go_wp2_with fail
        go_roundw
        case rel => exact ⟨j + 1, by omega, by go_num, Lib.hid (hT.out.store j _)⟩
        case measure => simp [RowKit.intOf]; omega
      · have hjn' : n = j := by omega
        subst hjn'
        obtain ⟨w8, hw8⟩ : ∃ w8, w8 = wr := ⟨wr, rfl⟩
        subst hw8
        have hkt : Byt.Kept (fun k => (Value.slice p4 n c4).ownBlock = some k) w7 w8 := hT.out.2
        have HSK8 := Lib.hid (HSK7.out.kept hkt (fun e => by have := (HINLT.out _ e).2; omega) (fun k hk e => HV6.out k e hk))
        have HS8 := Lib.hid (HS7.out.kept hkt (fun e => by have := (HINLT.out _ e).2; have := HGS.out; have := H46.out; omega) (fun _ x hx e => by have := (HINLT.out _ e).2; have := HNP.out x hx; have := H46.out; omega) (fun _ x hx e => by have := (HINLT.out _ e).2; have := HNQ.out x hx; have := H46.out; omega))
        have HK8 := Lib.hid (HK7.out.then hkt (fun i hi => Or.inl (by have := (HINLT.out _ hi).1; have := HK3.out.size; omega)))
        have H78 : Hid (w7.heap.size ≤ w8.heap.size) := Lib.hid hkt.size
        clear hkt
        go_wp2_with fail
        refine (out_any w8 w4.heap.size w4.heap.size v6 bs HSK8.out (by rw [HL.out]; omega)).mono ?_
        rintro e w9 ⟨v9, rfl, ho9, hk9⟩
        rw [HL.out] at ho9
        have HO9 := Lib.hid ho9
        obtain ⟨p9, c9, rfl, _, _, hb9, _, _⟩ := ho9.slice
        have HB9 := Lib.hid hb9
        have HS9 := Lib.hid (HS8.out.kept0 hk9)
        have HSK9 := Lib.hid (HSK8.out.kept hk9 id (fun _ _ => id))
        have HK9 := Lib.hid (HK8.out.trans hk9)
        have H89 : Hid (w8.heap.size ≤ w9.heap.size) := Lib.hid hk9.size
        clear ho9 hb9 hk9
        go_wp2_with (at_builtin; refine append_bytes rfl _ _ 22 rfl w9.heap.size 5 i0 Tryd.underlying22 HI.out HZ0.out HZ1.out HZ2.out _ 0 [] rfl (World.ownsRow_made w9 #[] 0 (Nat.le_refl _) (by decide) rfl) p9 n c9 bs rfl (HB9.out.alloc _) HL.out ?d2 ?d3 ?_)
        case d2 => omega
        case d3 => simp
        intro v10 w10 hown10 hgrow10
        have ho10 : OwnB w10 w9.heap.size v10 n bs := by
          unfold OwnB
          simpa using hown10
        have HO10 := Lib.hid ho10
        have hk10 : Byt.Kept noneB w9 w10 := ((Byt.Kept.refl noneB w9).alloc (.cells #[] 5)).grown hgrow10 (by intro k hk; simp [Value.ownBlock] at hk; omega)
        have HS10 := Lib.hid (HS9.out.kept0 hk10)
        have HSK10 := Lib.hid (HSK9.out.kept hk10 id (fun _ _ => id))
        have HK10 := Lib.hid (HK9.out.trans hk10)
        have H910 : Hid (w9.heap.size ≤ w10.heap.size) := Lib.hid hk10.size
        have HT10 := Lib.hid (turn_start (HO9.out.kept hk10 (fun _ _ => id)))
        obtain ⟨p10, c10, rfl, _, _, _, _, _⟩ := ho10.slice
        clear hown10 hgrow10 ho10 hk10
        go_wp2_with fail
        go_loopw [17] (fun i w11 => ∃ j : Nat, j ≤ n ∧ i = .int .i64 j ∧ Hid (TurnInv w10 w8.heap.size (.slice p9 n c9) n w11)) (fun i _ => n - (RowKit.intOf i).toNat)
        case atStart => exact ⟨0, by omega, rfl, HT10⟩
        case round =>
          obtain ⟨j, hj, rfl, hT2⟩ := hrel
          by_cases hjn2 : j < n
          · obtain ⟨g9, x, rfl, hcell, hfr⟩ := hT2.out.cell j hjn2
            go_wp2_with fail
            go_roundw
            case rel => exact ⟨j + 1, by omega, by go_num, Lib.hid (hT2.out.store j _)⟩
            case measure => simp [RowKit.intOf]; omega
          · have hjn' : n = j := by omega
            subst hjn'
            obtain ⟨w11, hw11⟩ : ∃ w11, w11 = wr := ⟨wr, rfl⟩
            subst hw11
            have hkt : Byt.Kept (fun k => (Value.slice p9 n c9).ownBlock = some k) w10 w11 := hT2.out.2
            have HLT9 := Lib.hid HO9.out.lt
            have HS11 := Lib.hid (HS8.out.since HS10.out hkt (fun k hk => (HLT9.out k hk).1))
            have HSK11 := Lib.hid (HSK10.out.kept hkt (fun e => by have := (HLT9.out _ e).1; have := HSK8.out.lt; omega) (fun k hk e => by have := (HLT9.out _ e).1; have := (HSK8.out.own.lt k hk).2; omega))
            have HO11 := Lib.hid (HO10.out.kept hkt (fun k hk e => by have := (HLT9.out _ e).2; have := (HO10.out.lt k hk).1; omega))
            have HK11 := Lib.hid (HK10.out.then hkt (fun i hi => Or.inl (by have := (HLT9.out _ hi).1; have := HK8.out.size; omega)))
            clear hkt
            obtain ⟨jj, hjj⟩ : ∃ jj, jj = n / 512 := ⟨_, rfl⟩
            obtain ⟨kk, hkk⟩ : ∃ kk, kk = jj * 512 := ⟨_, rfl⟩
            have hqa : (n : Int) / 512 = (jj : Int) := by omega
            have hqc : (jj : Int) * 512 = (kk : Int) := by omega
            have hkn : kk ≤ n := by omega
            have hpad : padN kk = kk := by unfold padN; omega
            have HPAD := Lib.hid hpad
            clear hjj hkk hpad
            go_wp2_with fail
            refine (body_any w11 gs 0 0 S HS11.out HOFF.out kk (by omega)).mono ?_
            intro e w12 h12
            rw [BodyPost, HPAD.out, HSN.out] at h12
            rcases h12 with ⟨_, p12, rfl, hb12, hnew12, ⟨t12, hs12⟩, hk12⟩ | ⟨h12, _⟩
            case inr => omega
            rw [HSB.out, List.drop_zero] at hb12
            have hgs1 : gs < w7.heap.size := HS7.out.lt
            have HO12 := Lib.hid (HO11.out.kept hk12 (fun k hk e => by
              have h1 := (HO10.out.lt k hk).1
              have h2 : k = gs := e
              have := H78.out
              have := H89.out
              omega))
            have HSK12 := Lib.hid (HSK11.out.kept hk12 (fun e => by
              have h2 : w4.heap.size = gs := e
              have := HS6.out.lt
              have := HGS.out
              omega) (fun k hk e => by
              have h2 : k = gs := e
              have := (HS6.out.own.lt k hk).2
              have := HGS.out
              omega))
            have HK12 := Lib.hid (HK11.out.then hk12 (fun i hi => Or.inl (by
              have h2 : i = gs := hi
              have := HGS.out
              have := HK6.out.size
              omega)))
            have HB12 := Lib.hid hb12
            clear hb12 hnew12 hs12 hk12
            obtain ⟨_, _, hv10, _, _, hb10, _, _⟩ := HO12.out.slice
            cases hv10
            have HB10 := Lib.hid hb10
            clear hb10
            obtain ⟨ds, hds⟩ : ∃ ds : ByteArray, ds = ⟨bs.toArray⟩ := ⟨_, rfl⟩
            obtain ⟨d2, hd2⟩ : ∃ d2 : ByteArray, d2 = ⟨(bs.take kk).toArray⟩ := ⟨_, rfl⟩
            have hall : ∀ w', Byt.Kept noneB w12 w' →
                (Sem.run Tryd.prog (convert 22 9 (.slice p10 n c10)) w' = .ok (.string ds) w' ∧ Sem.run Tryd.prog (convert 22 9 (.slice a0 n cap0)) w' = .ok (.string ds) w' ∧
                 Sem.run Tryd.prog (convert 22 9 (.slice p12 kk kk)) w' = .ok (.string d2) w' ∧ Sem.run Tryd.prog (convert 22 9 (.slice a0 kk cap0)) w' = .ok (.string d2) w') := fun w' hk' => by
              rw [hds, hd2]
              exact ⟨conv_at (HB10.out.kept hk' (fun _ _ _ => id)) HL.out _ _ _ Tryd.underlying22 Tryd.underlying5 Tryd.underlying9 _,
                conv_at (HB.out.kept (HK12.out.trans hk') (fun _ _ _ => id)) HL.out _ _ _ Tryd.underlying22 Tryd.underlying5 Tryd.underlying9 _,
                conv_at (HB12.out.kept hk' (fun _ _ _ => id)) (by rw [List.length_take, HL.out]; omega) _ _ _ Tryd.underlying22 Tryd.underlying5 Tryd.underlying9 _,
                conv_at ((HB.out.take hkn).kept (HK12.out.trans hk') (fun _ _ _ => id)) (by rw [List.length_take, HL.out]; omega) _ _ _ Tryd.underlying22 Tryd.underlying5 Tryd.underlying9 _⟩
            have HALL := Lib.hid hall
            have HDS := Lib.hid hds
            clear hall hds hd2
            have HKD : Hid (Byt.Kept noneB w12 w12.drew) := Lib.hid (Byt.Kept.refl _ w12).drew
            have hwa : IntKind.i64.wrap (jj : Int) = (jj : Int) := by rw [IntKind.wrap_i64]; omega
            have hwb : IntKind.i64.wrap (kk : Int) = (kk : Int) := by rw [IntKind.wrap_i64]; omega
            have hcc : (kk : Int) ≤ (cap0 : Int) := by omega
            go_wp2_with fail
            go_region_held_law (fun w' => Sem.run Tryd.prog (convert 22 9 (.slice p10 n c10)) w' = .ok (.string ds) w' ∧ Sem.run Tryd.prog (convert 22 9 (.slice a0 n cap0)) w' = .ok (.string ds) w' ∧
                 Sem.run Tryd.prog (convert 22 9 (.slice p12 kk kk)) w' = .ok (.string d2) w' ∧ Sem.run Tryd.prog (convert 22 9 (.slice a0 kk cap0)) w' = .ok (.string d2) w') (exact HALL.out _ HKD.out) (first
              | (go_at_call 8
                 refine (ans03_any _).mono ?_
                 rintro e wa ⟨rfl, hka⟩
                 have HKD := Lib.hid (HKD.out.trans hka)
                 clear hka)
              | (go_at_call 14
                 refine (place_nil _).mono ?_
                 rintro e wa ⟨rfl, rfl⟩)
              | (go_at_call 15
                 refine (rest_nil _).mono ?_
                 rintro e wa ⟨rfl, rfl⟩)
              | (go_at_call_of 19 (Value.pointer none)
                 refine (out_nil _).mono ?_
                 rintro e wa ⟨rfl, rfl⟩)
              | (go_at_call 19
                 refine (out_any _ w4.heap.size w4.heap.size v6 bs (HSK12.out.kept HKD.out id (fun _ _ => id)) (by rw [HL.out]; omega)).mono ?_
                 rintro e wo ⟨vo, rfl, hoo, hko⟩
                 rw [HL.out] at hoo
                 obtain ⟨po, co, rfl, _, _, hbo, hlo, _⟩ := hoo.slice
                 have cs1 : Sem.run Tryd.prog (convert 22 9 (.slice po n co)) wo = .ok (.string ds) wo := by
                   rw [HDS.out]
                   exact conv_at hbo hlo _ _ _ Tryd.underlying22 Tryd.underlying5 Tryd.underlying9 co
                 have HKD := Lib.hid (HKD.out.trans hko)
                 clear hoo hko hbo hlo))
            all_goals
              go_wp2
              go_ret
              exact ⟨rfl, (HK12.out.trans HKD.out).below (Nat.le_refl _) (fun _ h => h.elim)⟩
theorem blockNone (a0 : Option Addr) (len0 cap0 : Nat) (z0 : List Int) (a1 : Int) (w : World) (w0 : IsRow .u8 w a0 len0 cap0 z0) (b0 : cap0 * 1 ≤ 140737488351232) (w1 : (Lit.int .i64 a1).wf = true) :
    Calls Tryd.prog 6 #[.slice a0 len0 cap0, .int .i64 a1] w fun e w' => e = .returned (.bool true) ∧ Below w.heap.size w w' := by
  obtain ⟨hb, hl, hc, _⟩ := bat_of_row w0
  exact blockNone' a0 len0 cap0 _ a1 w hb hl hc (by omega)
end Go.Proofs.YtindibabpfdljaaDoor.Walk
