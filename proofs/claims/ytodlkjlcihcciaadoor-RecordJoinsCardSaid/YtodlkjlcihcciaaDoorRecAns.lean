/- Layer record's answers that no idle program gives, by contract. -/
import Derived.Test.YtodlkjlcihcciaaDoorRecFns
import Derived.Test.YtodlkjlcihcciaaDoorBytStr
import Derived.Lib.SlBytesConst
namespace Go.Proofs.YtodlkjlcihcciaaDoor.Rec
open Go.ChangeShapes Go.WideShapes Go.ChangeAt Go.RowKit Go.Proofs.YtodlkjlcihcciaaDoor.Base Go.Proofs.YtodlkjlcihcciaaDoor.Byt Go.Proofs.YtodlkjlcihcciaaDoor.Txt Go.Proofs.YtodlkjlcihcciaaDoor.Path Go.Lib
set_option linter.unusedVariables false
set_option maxRecDepth 100000

/-- a constant list of bytes, marked behind its end -/
theorem lit_bat (w : World) (l : List Int) (t : TypeId) (fr : Nat × Nat) (hl : ∀ x ∈ l, 0 ≤ x ∧ x < 256) : BAt (w.alloc (.cells (l.map (Value.int .u8)).toArray t fr)) (some ⟨w.heap.size, 0, none⟩) l.length (bytesOf l) :=
  bat_of_ints rfl hl fun h0 => ⟨_, 0, rfl, fun i hi => by
    rw [World.cell?_alloc_mark, Nat.zero_add]
    simp [List.getD, hi]⟩
/-- Parse, its answer known -/
theorem recParse_of (bs : List UInt8) (rs : List (List UInt8 × List UInt8)) (er : Int) (he : recsD 5 9 bs = (rs, er)) (p : Option Addr) (n c : Nat) (w : World) (hn : bs.length = n) (hc : n ≤ c) (hm : n ≤ 1000000000000) (h : BAt w p n bs) (hN : Need w) :
    Calls Tryd.prog 10 #[.slice p n c] w fun e w' =>
      ∃ q d, e = .returned (.tuple #[.slice q rs.length d, .int .i64 er]) ∧ rs.length ≤ d ∧ d ≤ maxLen ∧ RecsAt w' q rs.length rs ∧ Below w.heap.size w w' := by
  refine (recParse_any p n c bs w hn hc hm h hN).mono ?_
  unfold RecsPost
  rw [he]
  exact fun _ _ h => h
theorem recLine_of (k v l : List UInt8) (m : Bool) (h1 : mayD k v = m) (h2 : (if m then lineD k v else []) = l) (w : World) (hk : k.length ≤ 1000000000000) (hv : v.length ≤ 1000000000000) (hkv : k.length + v.length ≤ 1000000000000) (hN : Need w) :
    Calls Tryd.prog 13 #[.agg #[.string (str k), .string (str v)]] w fun e w' => e = .returned (.tuple #[.string (str l), .bool m]) ∧ Below w.heap.size w w' := by
  have := recLine_any k v w hk hv hkv hN
  rwa [h1, h2] at this
theorem line_path : mayD [112, 97, 116, 104] [97] = true ∧ lineD [112, 97, 116, 104] [97] = [57, 32, 112, 97, 116, 104, 61, 97, 10] := by
  constructor
  · decide +kernel
  · have h : (bodyD [112, 97, 116, 104] [97]).length = 8 := rfl
    have h8 : (decL 8).length = 1 := by rw [decL_small (by omega)]; rfl
    have h9 : decL 9 = [57] := by rw [decL_small (by omega)]; rfl
    have hn : lineN 8 = 9 := by unfold lineN; rw [h8, h9]; rfl
    unfold lineD
    rw [h, hn, h9]
    rfl
theorem recs_path : recsD 5 9 [57, 32, 112, 97, 116, 104, 61, 97, 10] = ([([112, 97, 116, 104], [97])], 0) := by
  have h := recs_lines 5 9 [([112, 97, 116, 104], [97])] [] [] (by intro r hr; rw [List.mem_singleton.1 hr]; exact line_path.1)
  rw [List.append_nil, recsFrom_nil] at h
  have e : linesD [([112, 97, 116, 104], [97])] = [57, 32, 112, 97, 116, 104, 61, 97, 10] := by
    show lineD [112, 97, 116, 104] [97] ++ [] = _
    rw [List.append_nil, line_path.2]
  rw [e] at h
  exact h
theorem recs_bad : recsD 5 9 [49, 49, 32, 112, 97, 116, 104, 61, 97, 10] = ([], 5) := by decide +kernel
set_option maxHeartbeats 2000000 in
theorem ans06_any (w : World) (hN : Need w) : Calls Tryd.prog 9 #[] w fun e w' => e = .returned (.bool true) ∧ Below w.heap.size w w' := by
  go_enter Tryd.func9, Tryd.ntmps9
  go_wp2_with fail
  refine (recLine_of [112, 97, 116, 104] [97] _ true line_path.1 line_path.2 _ (by decide) (by decide) (by decide) hN).mono ?_
  rintro e w1 ⟨rfl, hb1⟩
  have hN1 := hN.below hb1
  have HB1 := Lib.hid hb1
  clear hb1
  obtain ⟨s, hs⟩ : ∃ s, str [57, 32, 112, 97, 116, 104, 61, 97, 10] = s := ⟨_, rfl⟩
  have HSZ : Hid (s.size = 9) := Lib.hid (by rw [← hs]; rfl)
  have hs9 : s.size ≤ 1000000000000 := by rw [HSZ.out]; decide
  have HSD : Hid (s.data.toList = [57, 32, 112, 97, 116, 104, 61, 97, 10]) := Lib.hid (by rw [← hs, str_data])
  have hsl : (s.toList == [57, 32, 112, 97, 116, 104, 61, 97, 10]) = true := by rw [← hs, str_is]; simp
  rw [hs]
  clear hs
  have hm2 : s.size ≤ maxLen := by rw [HSZ.out]; decide
  obtain ⟨hc1, hc2⟩ := str_cap w1 5 s hm2
  have cvb := Lib.run_convert_string_bytes (P := Tryd.prog) w1 9 22 5 s Tryd.underlying9 Tryd.underlying22 Tryd.underlying5
  have HC1 := Lib.hid hc1
  have HBT := Lib.hid (str_bat w1 5 s)
  have HSB := Lib.hid (str_below w1 5 s)
  clear hc1 hc2 hm2
  go_wp2_with fail
  refine (recParse_of s.data.toList [([112, 97, 116, 104], [97])] 0 (by rw [HSD.out]; exact recs_path) _ s.size _ _ (size_of s).symm HC1.out hs9 HBT.out (hN1.below HSB.out)).mono ?_
  rintro e w2 ⟨q, d, rfl, hd1, hd2, hr2, hb2⟩
  have HB2 := Lib.hid (HB1.out.trans ((HSB.out.trans (hb2.mono HSB.out.size)).mono HB1.out.size))
  have hN2 := (hN1.below HSB.out).below hb2
  have HR2 := Lib.hid hr2
  clear hb2 cvb hr2
  have N5 := Lib.hid (lit_bat w2 [49, 49, 32, 112, 97, 116, 104, 61, 97, 10] 5 (10, 11) (by decide))
  have C5 := Lib.run_convert_bytes_const (P := Tryd.prog) w2 22 5 #[.int .u8 49, .int .u8 49, .int .u8 32, .int .u8 112, .int .u8 97, .int .u8 116, .int .u8 104, .int .u8 61, .int .u8 97, .int .u8 10] 10 10 Tryd.underlying22 Tryd.underlying5
  go_wp2_with fail
  refine (recParse_of [49, 49, 32, 112, 97, 116, 104, 61, 97, 10] _ _ recs_bad _ 10 10 _ rfl (by omega) (by decide) N5.out (hN2.below ((Below.refl _ _).alloc (Nat.le_refl _) _))).mono ?_
  rintro e w3 ⟨q3, d3, rfl, hd3, hd4, hr3, hb3⟩
  have HB3 := Lib.hid (HB2.out.trans ((((Below.refl w2.heap.size w2).alloc (Nat.le_refl _) _).trans (hb3.mono (by simp))).mono HB2.out.size))
  have hr4 := HR2.out.below (((Below.refl w2.heap.size w2).alloc (Nat.le_refl _) _).trans (hb3.mono (by simp)))
  obtain ⟨b, o, rfl, hbw, hcs⟩ := hr4.2 (by decide)
  obtain ⟨g0, g1⟩ := hcs 0 (by decide)
  clear hcs hr3 hb3 C5 hr4
  have hsa : ((str [97]).toList == [97]) = true := by rw [str_is]; simp
  go_wp2
  go_ret
  exact ⟨rfl, HB3.out⟩
end Go.Proofs.YtodlkjlcihcciaaDoor.Rec
