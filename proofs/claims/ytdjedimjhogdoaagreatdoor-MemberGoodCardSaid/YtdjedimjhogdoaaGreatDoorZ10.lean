import Derived.Test.YtdjedimjhogdoaaGreatDoorZ9
import Derived.Test.YtdjedimjhogdoaaGreatDoorZ6
import Derived.Deep.LoopGhost
import Derived.Lib.SlBytesConst
section
namespace Go.Proofs.YtdjedimjhogdoaaGreatDoor.Mem
open Go.ChangeShapes Go.WideShapes Go.ChangeAt Go.RowKit Go.Proofs.YtdjedimjhogdoaaGreatDoor.Base Go.Proofs.YtdjedimjhogdoaaGreatDoor.Byt Go.Proofs.YtdjedimjhogdoaaGreatDoor.Txt Go.Proofs.YtdjedimjhogdoaaGreatDoor.Bk Go.Proofs.YtdjedimjhogdoaaGreatDoor.Mk Go.Proofs.YtdjedimjhogdoaaGreatDoor.Block Go.Proofs.YtdjedimjhogdoaaGreatDoor.Hp Go.Proofs.YtdjedimjhogdoaaGreatDoor.Head Go.Proofs.YtdjedimjhogdoaaGreatDoor.Attr Go.Proofs.YtdjedimjhogdoaaGreatDoor.Rec Go.Proofs.YtdjedimjhogdoaaGreatDoor.Path Go.Lib Go.Shelf
set_option linter.unusedVariables false
set_option maxRecDepth 100000
section
variable {w0 w w' : World} {K : RK} {a : Nat} {s : RS} {mb : Option Nat} {v : Value} {xs : List MP} {q : Option Addr} {n c : Nat}
set_option maxHeartbeats 2000000 in
theorem next_ext120 (hr : Rd w0 w K a s mb v xs q n c) (X : List UInt8) (hX : (K.S.bs.drop a).take 512 = X) (hl : a + 512 ≤ K.S.n) (hz : zeroB X = false) (h : HeadV) (hh : headR X = (h, 0)) (hkd : h.kind = 120) (hN : Need w0) :
    Calls Tryz.prog 31 #[.pointer (some ⟨K.r, 0, none⟩)] w fun e w' => ∃ E, e = .returned (.tuple #[.bool true, .int .i64 E]) ∧ StepPost w0 K a (extD (K.S.bs.drop a) h s) (.returned (.int .i64 E)) w' := by
  obtain ⟨t, hs⟩ := hr.src
  have hXl : X.length = 512 := by rw [← hX, List.length_take, List.length_drop, hs.len]; omega
  have HR := Lib.hid hr
  have x0 := hr.c0
  have hB := blk_ok w K.g a t K.S hs hr.off X hX hl
  have HXL := Lib.hid hXl
  have HZ := Lib.hid hz
  have HH := Lib.hid hh
  have hbd := headR_bd X
  rw [hh] at hbd
  obtain ⟨b0, b1, b2⟩ := hbd
  have HBD := Lib.hid (And.intro b0 (And.intro b1 b2))
  have HND := Lib.hid hN
  obtain ⟨kn, hkn⟩ : ∃ kn : Int, (h.kind.toNat : Int) = kn := ⟨_, rfl⟩
  obtain rfl : kn = 120 := by rw [← hkn, hkd]; rfl
  have HK := Lib.hid hkd
  clear hkd
  clear hr hs hl hX hXl hz hh b0 b1 b2 hN
  have HKN := Lib.hid hkn
  clear hkn
  go_enter Tryz.func31, Tryz.ntmps31
  go_wp2_with fail
  refine hB.mono ?_
  rintro e w1 ⟨p, cc, t', rfl, hc1, hc2, h3, h4, h5⟩
  have F := Lib.hid (HR.out.moved h5 ⟨t', h4⟩)
  have HB1 := Lib.hid h3
  have HC1 := Lib.hid (And.intro hc1 hc2)
  clear h3 h4 h5 hB x0 hc1 hc2
  go_wp2_with fail
  refine (zero512_any p cc X w1 HXL.out HB1.out).mono ?_
  rw [HZ.out]
  rintro e w2 ⟨rfl, rfl⟩
  go_wp2_with fail
  refine (parseH_any p 512 cc X w1 HXL.out HC1.out.1 HC1.out.2 HB1.out).mono ?_
  rw [HH.out]
  unfold headA headC
  simp only [HKN.out]
  rintro e w3 ⟨rfl, hk3⟩
  have hG := (F.out.idle hk3).below ((Below.refl _ w3).alloc (Nat.le_refl _) (.cells #[.string (str h.name), .string (str h.link), .int .u8 120, .int .i64 h.mode, .int .i64 h.uid, .int .i64 h.gid, .int .i64 h.time, .int .i64 h.size, .bool h.gnu] 57))
  have b1 := Blk.new w3 57 #[.string (str h.name), .string (str h.link), .int .u8 120, .int .i64 h.mode, .int .i64 h.uid, .int .i64 h.gid, .int .i64 h.time, .int .i64 h.size, .bool h.gnu]
  have d0 := b1.cell 0
  have d1 := b1.cell 1
  have d2 := b1.cell 2
  have d3 := b1.cell 3
  have d4 := b1.cell 4
  have d5 := b1.cell 5
  have d6 := b1.cell 6
  have d7 := b1.cell 7
  have d8 := b1.cell 8
  simp only [List.getElem?_toArray, List.getElem?_cons_zero, List.getElem?_cons_succ] at d0 d1 d2 d3 d4 d5 d6 d7 d8
  have G := Lib.hid hG
  clear hk3 b1 hG
  go_wp2_with fail
  refine (show Calls _ _ #[.pointer (some ⟨K.r, 0, none⟩), .agg #[.string (str h.name), .string (str h.link), .int .u8 120, .int .i64 h.mode, .int .i64 h.uid, .int .i64 h.gid, .int .i64 h.time, .int .i64 h.size, .bool h.gnu]] _ (StepPost w0 K a (extD (K.S.bs.drop a) h s)) from by
    have := ext_any G.out h HBD.out.1 (by rw [HK.out]; rfl) HND.out
    unfold headC at this
    rw [HKN.out] at this
    exact this).mono ?_
  intro e w4 hp
  obtain ⟨E, rfl⟩ : ∃ E, e = .returned (.int .i64 E) := by
    revert hp
    cases extD (K.S.bs.drop a) h s with
    | fault er => exact fun hp => ⟨er, hp.1⟩
    | done => exact fun hp => hp.elim
    | next k s' => exact fun hp => ⟨0, hp.1⟩
  have HP := Lib.hid hp
  clear hp
  go_wp2
  go_ret2
  exact ⟨E, rfl, HP.out⟩
set_option maxHeartbeats 2000000 in
theorem next_ext103 (hr : Rd w0 w K a s mb v xs q n c) (X : List UInt8) (hX : (K.S.bs.drop a).take 512 = X) (hl : a + 512 ≤ K.S.n) (hz : zeroB X = false) (h : HeadV) (hh : headR X = (h, 0)) (hkd : h.kind = 103) (hN : Need w0) :
    Calls Tryz.prog 31 #[.pointer (some ⟨K.r, 0, none⟩)] w fun e w' => ∃ E, e = .returned (.tuple #[.bool true, .int .i64 E]) ∧ StepPost w0 K a (extD (K.S.bs.drop a) h s) (.returned (.int .i64 E)) w' := by
  obtain ⟨t, hs⟩ := hr.src
  have hXl : X.length = 512 := by rw [← hX, List.length_take, List.length_drop, hs.len]; omega
  have HR := Lib.hid hr
  have x0 := hr.c0
  have hB := blk_ok w K.g a t K.S hs hr.off X hX hl
  have HXL := Lib.hid hXl
  have HZ := Lib.hid hz
  have HH := Lib.hid hh
  have hbd := headR_bd X
  rw [hh] at hbd
  obtain ⟨b0, b1, b2⟩ := hbd
  have HBD := Lib.hid (And.intro b0 (And.intro b1 b2))
  have HND := Lib.hid hN
  obtain ⟨kn, hkn⟩ : ∃ kn : Int, (h.kind.toNat : Int) = kn := ⟨_, rfl⟩
  obtain rfl : kn = 103 := by rw [← hkn, hkd]; rfl
  have HK := Lib.hid hkd
  clear hkd
  clear hr hs hl hX hXl hz hh b0 b1 b2 hN
  have HKN := Lib.hid hkn
  clear hkn
  go_enter Tryz.func31, Tryz.ntmps31
  go_wp2_with fail
  refine hB.mono ?_
  rintro e w1 ⟨p, cc, t', rfl, hc1, hc2, h3, h4, h5⟩
  have F := Lib.hid (HR.out.moved h5 ⟨t', h4⟩)
  have HB1 := Lib.hid h3
  have HC1 := Lib.hid (And.intro hc1 hc2)
  clear h3 h4 h5 hB x0 hc1 hc2
  go_wp2_with fail
  refine (zero512_any p cc X w1 HXL.out HB1.out).mono ?_
  rw [HZ.out]
  rintro e w2 ⟨rfl, rfl⟩
  go_wp2_with fail
  refine (parseH_any p 512 cc X w1 HXL.out HC1.out.1 HC1.out.2 HB1.out).mono ?_
  rw [HH.out]
  unfold headA headC
  simp only [HKN.out]
  rintro e w3 ⟨rfl, hk3⟩
  have hG := (F.out.idle hk3).below ((Below.refl _ w3).alloc (Nat.le_refl _) (.cells #[.string (str h.name), .string (str h.link), .int .u8 103, .int .i64 h.mode, .int .i64 h.uid, .int .i64 h.gid, .int .i64 h.time, .int .i64 h.size, .bool h.gnu] 57))
  have b1 := Blk.new w3 57 #[.string (str h.name), .string (str h.link), .int .u8 103, .int .i64 h.mode, .int .i64 h.uid, .int .i64 h.gid, .int .i64 h.time, .int .i64 h.size, .bool h.gnu]
  have d0 := b1.cell 0
  have d1 := b1.cell 1
  have d2 := b1.cell 2
  have d3 := b1.cell 3
  have d4 := b1.cell 4
  have d5 := b1.cell 5
  have d6 := b1.cell 6
  have d7 := b1.cell 7
  have d8 := b1.cell 8
  simp only [List.getElem?_toArray, List.getElem?_cons_zero, List.getElem?_cons_succ] at d0 d1 d2 d3 d4 d5 d6 d7 d8
  have G := Lib.hid hG
  clear hk3 b1 hG
  go_wp2_with fail
  refine (show Calls _ _ #[.pointer (some ⟨K.r, 0, none⟩), .agg #[.string (str h.name), .string (str h.link), .int .u8 103, .int .i64 h.mode, .int .i64 h.uid, .int .i64 h.gid, .int .i64 h.time, .int .i64 h.size, .bool h.gnu]] _ (StepPost w0 K a (extD (K.S.bs.drop a) h s)) from by
    have := ext_any G.out h HBD.out.1 (by rw [HK.out]; rfl) HND.out
    unfold headC at this
    rw [HKN.out] at this
    exact this).mono ?_
  intro e w4 hp
  obtain ⟨E, rfl⟩ : ∃ E, e = .returned (.int .i64 E) := by
    revert hp
    cases extD (K.S.bs.drop a) h s with
    | fault er => exact fun hp => ⟨er, hp.1⟩
    | done => exact fun hp => hp.elim
    | next k s' => exact fun hp => ⟨0, hp.1⟩
  have HP := Lib.hid hp
  clear hp
  go_wp2
  go_ret2
  exact ⟨E, rfl, HP.out⟩
set_option maxHeartbeats 2000000 in
theorem next_ext76 (hr : Rd w0 w K a s mb v xs q n c) (X : List UInt8) (hX : (K.S.bs.drop a).take 512 = X) (hl : a + 512 ≤ K.S.n) (hz : zeroB X = false) (h : HeadV) (hh : headR X = (h, 0)) (hkd : h.kind = 76) (hN : Need w0) :
    Calls Tryz.prog 31 #[.pointer (some ⟨K.r, 0, none⟩)] w fun e w' => ∃ E, e = .returned (.tuple #[.bool true, .int .i64 E]) ∧ StepPost w0 K a (extD (K.S.bs.drop a) h s) (.returned (.int .i64 E)) w' := by
  obtain ⟨t, hs⟩ := hr.src
  have hXl : X.length = 512 := by rw [← hX, List.length_take, List.length_drop, hs.len]; omega
  have HR := Lib.hid hr
  have x0 := hr.c0
  have hB := blk_ok w K.g a t K.S hs hr.off X hX hl
  have HXL := Lib.hid hXl
  have HZ := Lib.hid hz
  have HH := Lib.hid hh
  have hbd := headR_bd X
  rw [hh] at hbd
  obtain ⟨b0, b1, b2⟩ := hbd
  have HBD := Lib.hid (And.intro b0 (And.intro b1 b2))
  have HND := Lib.hid hN
  obtain ⟨kn, hkn⟩ : ∃ kn : Int, (h.kind.toNat : Int) = kn := ⟨_, rfl⟩
  obtain rfl : kn = 76 := by rw [← hkn, hkd]; rfl
  have HK := Lib.hid hkd
  clear hkd
  clear hr hs hl hX hXl hz hh b0 b1 b2 hN
  have HKN := Lib.hid hkn
  clear hkn
  go_enter Tryz.func31, Tryz.ntmps31
  go_wp2_with fail
  refine hB.mono ?_
  rintro e w1 ⟨p, cc, t', rfl, hc1, hc2, h3, h4, h5⟩
  have F := Lib.hid (HR.out.moved h5 ⟨t', h4⟩)
  have HB1 := Lib.hid h3
  have HC1 := Lib.hid (And.intro hc1 hc2)
  clear h3 h4 h5 hB x0 hc1 hc2
  go_wp2_with fail
  refine (zero512_any p cc X w1 HXL.out HB1.out).mono ?_
  rw [HZ.out]
  rintro e w2 ⟨rfl, rfl⟩
  go_wp2_with fail
  refine (parseH_any p 512 cc X w1 HXL.out HC1.out.1 HC1.out.2 HB1.out).mono ?_
  rw [HH.out]
  unfold headA headC
  simp only [HKN.out]
  rintro e w3 ⟨rfl, hk3⟩
  have hG := (F.out.idle hk3).below ((Below.refl _ w3).alloc (Nat.le_refl _) (.cells #[.string (str h.name), .string (str h.link), .int .u8 76, .int .i64 h.mode, .int .i64 h.uid, .int .i64 h.gid, .int .i64 h.time, .int .i64 h.size, .bool h.gnu] 57))
  have b1 := Blk.new w3 57 #[.string (str h.name), .string (str h.link), .int .u8 76, .int .i64 h.mode, .int .i64 h.uid, .int .i64 h.gid, .int .i64 h.time, .int .i64 h.size, .bool h.gnu]
  have d0 := b1.cell 0
  have d1 := b1.cell 1
  have d2 := b1.cell 2
  have d3 := b1.cell 3
  have d4 := b1.cell 4
  have d5 := b1.cell 5
  have d6 := b1.cell 6
  have d7 := b1.cell 7
  have d8 := b1.cell 8
  simp only [List.getElem?_toArray, List.getElem?_cons_zero, List.getElem?_cons_succ] at d0 d1 d2 d3 d4 d5 d6 d7 d8
  have G := Lib.hid hG
  clear hk3 b1 hG
  go_wp2_with fail
  refine (show Calls _ _ #[.pointer (some ⟨K.r, 0, none⟩), .agg #[.string (str h.name), .string (str h.link), .int .u8 76, .int .i64 h.mode, .int .i64 h.uid, .int .i64 h.gid, .int .i64 h.time, .int .i64 h.size, .bool h.gnu]] _ (StepPost w0 K a (extD (K.S.bs.drop a) h s)) from by
    have := ext_any G.out h HBD.out.1 (by rw [HK.out]; rfl) HND.out
    unfold headC at this
    rw [HKN.out] at this
    exact this).mono ?_
  intro e w4 hp
  obtain ⟨E, rfl⟩ : ∃ E, e = .returned (.int .i64 E) := by
    revert hp
    cases extD (K.S.bs.drop a) h s with
    | fault er => exact fun hp => ⟨er, hp.1⟩
    | done => exact fun hp => hp.elim
    | next k s' => exact fun hp => ⟨0, hp.1⟩
  have HP := Lib.hid hp
  clear hp
  go_wp2
  go_ret2
  exact ⟨E, rfl, HP.out⟩
set_option maxHeartbeats 2000000 in
theorem next_ext75 (hr : Rd w0 w K a s mb v xs q n c) (X : List UInt8) (hX : (K.S.bs.drop a).take 512 = X) (hl : a + 512 ≤ K.S.n) (hz : zeroB X = false) (h : HeadV) (hh : headR X = (h, 0)) (hkd : h.kind = 75) (hN : Need w0) :
    Calls Tryz.prog 31 #[.pointer (some ⟨K.r, 0, none⟩)] w fun e w' => ∃ E, e = .returned (.tuple #[.bool true, .int .i64 E]) ∧ StepPost w0 K a (extD (K.S.bs.drop a) h s) (.returned (.int .i64 E)) w' := by
  obtain ⟨t, hs⟩ := hr.src
  have hXl : X.length = 512 := by rw [← hX, List.length_take, List.length_drop, hs.len]; omega
  have HR := Lib.hid hr
  have x0 := hr.c0
  have hB := blk_ok w K.g a t K.S hs hr.off X hX hl
  have HXL := Lib.hid hXl
  have HZ := Lib.hid hz
  have HH := Lib.hid hh
  have hbd := headR_bd X
  rw [hh] at hbd
  obtain ⟨b0, b1, b2⟩ := hbd
  have HBD := Lib.hid (And.intro b0 (And.intro b1 b2))
  have HND := Lib.hid hN
  obtain ⟨kn, hkn⟩ : ∃ kn : Int, (h.kind.toNat : Int) = kn := ⟨_, rfl⟩
  obtain rfl : kn = 75 := by rw [← hkn, hkd]; rfl
  have HK := Lib.hid hkd
  clear hkd
  clear hr hs hl hX hXl hz hh b0 b1 b2 hN
  have HKN := Lib.hid hkn
  clear hkn
  go_enter Tryz.func31, Tryz.ntmps31
  go_wp2_with fail
  refine hB.mono ?_
  rintro e w1 ⟨p, cc, t', rfl, hc1, hc2, h3, h4, h5⟩
  have F := Lib.hid (HR.out.moved h5 ⟨t', h4⟩)
  have HB1 := Lib.hid h3
  have HC1 := Lib.hid (And.intro hc1 hc2)
  clear h3 h4 h5 hB x0 hc1 hc2
  go_wp2_with fail
  refine (zero512_any p cc X w1 HXL.out HB1.out).mono ?_
  rw [HZ.out]
  rintro e w2 ⟨rfl, rfl⟩
  go_wp2_with fail
  refine (parseH_any p 512 cc X w1 HXL.out HC1.out.1 HC1.out.2 HB1.out).mono ?_
  rw [HH.out]
  unfold headA headC
  simp only [HKN.out]
  rintro e w3 ⟨rfl, hk3⟩
  have hG := (F.out.idle hk3).below ((Below.refl _ w3).alloc (Nat.le_refl _) (.cells #[.string (str h.name), .string (str h.link), .int .u8 75, .int .i64 h.mode, .int .i64 h.uid, .int .i64 h.gid, .int .i64 h.time, .int .i64 h.size, .bool h.gnu] 57))
  have b1 := Blk.new w3 57 #[.string (str h.name), .string (str h.link), .int .u8 75, .int .i64 h.mode, .int .i64 h.uid, .int .i64 h.gid, .int .i64 h.time, .int .i64 h.size, .bool h.gnu]
  have d0 := b1.cell 0
  have d1 := b1.cell 1
  have d2 := b1.cell 2
  have d3 := b1.cell 3
  have d4 := b1.cell 4
  have d5 := b1.cell 5
  have d6 := b1.cell 6
  have d7 := b1.cell 7
  have d8 := b1.cell 8
  simp only [List.getElem?_toArray, List.getElem?_cons_zero, List.getElem?_cons_succ] at d0 d1 d2 d3 d4 d5 d6 d7 d8
  have G := Lib.hid hG
  clear hk3 b1 hG
  go_wp2_with fail
  refine (show Calls _ _ #[.pointer (some ⟨K.r, 0, none⟩), .agg #[.string (str h.name), .string (str h.link), .int .u8 75, .int .i64 h.mode, .int .i64 h.uid, .int .i64 h.gid, .int .i64 h.time, .int .i64 h.size, .bool h.gnu]] _ (StepPost w0 K a (extD (K.S.bs.drop a) h s)) from by
    have := ext_any G.out h HBD.out.1 (by rw [HK.out]; rfl) HND.out
    unfold headC at this
    rw [HKN.out] at this
    exact this).mono ?_
  intro e w4 hp
  obtain ⟨E, rfl⟩ : ∃ E, e = .returned (.int .i64 E) := by
    revert hp
    cases extD (K.S.bs.drop a) h s with
    | fault er => exact fun hp => ⟨er, hp.1⟩
    | done => exact fun hp => hp.elim
    | next k s' => exact fun hp => ⟨0, hp.1⟩
  have HP := Lib.hid hp
  clear hp
  go_wp2
  go_ret2
  exact ⟨E, rfl, HP.out⟩
set_option maxHeartbeats 2000000 in
theorem next_add (hr : Rd w0 w K a s mb v xs q n c) (X : List UInt8) (hX : (K.S.bs.drop a).take 512 = X) (hl : a + 512 ≤ K.S.n) (hz : zeroB X = false) (h : HeadV) (hh : headR X = (h, 0)) (hkd : isExt h.kind = false) (hN : Need w0) :
    Calls Tryz.prog 31 #[.pointer (some ⟨K.r, 0, none⟩)] w fun e w' => ∃ E, e = .returned (.tuple #[.bool true, .int .i64 E]) ∧ StepPost w0 K a (memD (K.S.bs.drop a) h s) (.returned (.int .i64 E)) w' := by
  obtain ⟨t, hs⟩ := hr.src
  have hXl : X.length = 512 := by rw [← hX, List.length_take, List.length_drop, hs.len]; omega
  have HR := Lib.hid hr
  have x0 := hr.c0
  have hB := blk_ok w K.g a t K.S hs hr.off X hX hl
  have HXL := Lib.hid hXl
  have HZ := Lib.hid hz
  have HH := Lib.hid hh
  have hbd := headR_bd X
  rw [hh] at hbd
  obtain ⟨b0, b1, b2⟩ := hbd
  have HBD := Lib.hid (And.intro b0 (And.intro b1 b2))
  have HND := Lib.hid hN
  obtain ⟨kn, hkn⟩ : ∃ kn : Int, (h.kind.toNat : Int) = kn := ⟨_, rfl⟩
  have e4 : (kn == 120) = false ∧ (kn == 103) = false ∧ (kn == 76) = false ∧ (kn == 75) = false := by
    have hu := fun m hm => u8_lit h.kind m hm
    unfold isExt at hkd
    simp only [Bool.or_eq_false_iff, beq_eq_false_iff_ne] at hkd
    obtain ⟨⟨⟨k1, k2⟩, k3⟩, k4⟩ := hkd
    simp only [beq_eq_false_iff_ne]
    exact ⟨fun e => k1 ((hu 120 (by decide)).1 (hkn.trans e)), fun e => k2 ((hu 103 (by decide)).1 (hkn.trans e)), fun e => k3 ((hu 76 (by decide)).1 (hkn.trans e)), fun e => k4 ((hu 75 (by decide)).1 (hkn.trans e))⟩
  obtain ⟨e1, e2, e3, e4⟩ := e4
  clear hkd
  clear hr hs hl hX hXl hz hh b0 b1 b2 hN
  have HKN := Lib.hid hkn
  clear hkn
  go_enter Tryz.func31, Tryz.ntmps31
  go_wp2_with fail
  refine hB.mono ?_
  rintro e w1 ⟨p, cc, t', rfl, hc1, hc2, h3, h4, h5⟩
  have F := Lib.hid (HR.out.moved h5 ⟨t', h4⟩)
  have HB1 := Lib.hid h3
  have HC1 := Lib.hid (And.intro hc1 hc2)
  clear h3 h4 h5 hB x0 hc1 hc2
  go_wp2_with fail
  refine (zero512_any p cc X w1 HXL.out HB1.out).mono ?_
  rw [HZ.out]
  rintro e w2 ⟨rfl, rfl⟩
  go_wp2_with fail
  refine (parseH_any p 512 cc X w1 HXL.out HC1.out.1 HC1.out.2 HB1.out).mono ?_
  rw [HH.out]
  unfold headA headC
  simp only [HKN.out]
  rintro e w3 ⟨rfl, hk3⟩
  have hG := (F.out.idle hk3).below ((Below.refl _ w3).alloc (Nat.le_refl _) (.cells #[.string (str h.name), .string (str h.link), .int .u8 kn, .int .i64 h.mode, .int .i64 h.uid, .int .i64 h.gid, .int .i64 h.time, .int .i64 h.size, .bool h.gnu] 57))
  have b1 := Blk.new w3 57 #[.string (str h.name), .string (str h.link), .int .u8 kn, .int .i64 h.mode, .int .i64 h.uid, .int .i64 h.gid, .int .i64 h.time, .int .i64 h.size, .bool h.gnu]
  have d0 := b1.cell 0
  have d1 := b1.cell 1
  have d2 := b1.cell 2
  have d3 := b1.cell 3
  have d4 := b1.cell 4
  have d5 := b1.cell 5
  have d6 := b1.cell 6
  have d7 := b1.cell 7
  have d8 := b1.cell 8
  simp only [List.getElem?_toArray, List.getElem?_cons_zero, List.getElem?_cons_succ] at d0 d1 d2 d3 d4 d5 d6 d7 d8
  have G := Lib.hid hG
  clear hk3 b1 hG
  go_wp2_with fail
  refine (show Calls _ _ #[.pointer (some ⟨K.r, 0, none⟩), .agg #[.string (str h.name), .string (str h.link), .int .u8 kn, .int .i64 h.mode, .int .i64 h.uid, .int .i64 h.gid, .int .i64 h.time, .int .i64 h.size, .bool h.gnu]] _ (StepPost w0 K a (memD (K.S.bs.drop a) h s)) from by
    have := add_any G.out h HND.out HBD.out.1 (by have := HBD.out.2.1; omega) (by have := HBD.out.2.2; omega)
    unfold headC at this
    rw [HKN.out] at this
    exact this).mono ?_
  intro e w4 hp
  obtain ⟨E, rfl⟩ : ∃ E, e = .returned (.int .i64 E) := by
    revert hp
    cases memD (K.S.bs.drop a) h s with
    | fault er => exact fun hp => ⟨er, hp.1⟩
    | done => exact fun hp => hp.elim
    | next k s' => exact fun hp => ⟨0, hp.1⟩
  have HP := Lib.hid hp
  clear hp
  go_wp2
  go_ret2
  exact ⟨E, rfl, HP.out⟩
theorem next_of {st : Step} (hd : st ≠ .done) (h : Calls Tryz.prog 31 #[.pointer (some ⟨K.r, 0, none⟩)] w fun e w' => ∃ E, e = .returned (.tuple #[.bool true, .int .i64 E]) ∧ StepPost w0 K a st (.returned (.int .i64 E)) w') :
    Calls Tryz.prog 31 #[.pointer (some ⟨K.r, 0, none⟩)] w (NextPost w0 K a s mb v xs q n c st) := by
  refine h.mono ?_
  rintro e w' ⟨E, rfl, hp⟩
  cases st with
  | fault er =>
    obtain ⟨h1, h2⟩ := hp
    simp only [Ending.returned.injEq, Value.int.injEq, true_and] at h1
    subst h1
    exact ⟨⟨true, rfl⟩, h2⟩
  | done => exact absurd rfl hd
  | next k s' =>
    obtain ⟨h1, h2⟩ := hp
    simp only [Ending.returned.injEq, Value.int.injEq, true_and] at h1
    subst h1
    exact ⟨rfl, h2⟩
theorem extD_done (l : List UInt8) (h : HeadV) (s : RS) : extD l h s ≠ .done := by
  unfold extD
  split
  · exact fun h => by cases h
  · split
    · exact fun h => by cases h
    · split
      · exact fun h => by cases h
      · split
        · exact fun h => by cases h
        · split
          · exact fun h => by cases h
          · split
            · exact fun h => by cases h
            · split <;> exact fun h => by cases h
theorem memD_done (l : List UInt8) (h : HeadV) (s : RS) : memD l h s ≠ .done := by
  unfold memD
  split
  · exact fun h => by cases h
  · split
    · exact fun h => by cases h
    · split
      · exact fun h => by cases h
      · split <;> exact fun h => by cases h
theorem next_any (hr : Rd w0 w K a s mb v xs q n c) (hN : Need w0) :
    Calls Tryz.prog 31 #[.pointer (some ⟨K.r, 0, none⟩)] w (NextPost w0 K a s mb v xs q n c (stepD (K.S.bs.drop a) s)) := by
  obtain ⟨t, hs⟩ := hr.src
  have hlen := hs.len
  have hle := hs.le
  have hLL : (K.S.bs.drop a).length = K.S.n - a := by rw [List.length_drop, hlen]
  unfold stepD
  by_cases h1 : (K.S.bs.drop a).length < 512
  · rw [if_pos h1]
    exact (next_short hr (by omega)).mono fun e w' h => ⟨⟨false, h.1⟩, h.2⟩
  · rw [if_neg h1]
    have hl : a + 512 ≤ K.S.n := by omega
    obtain ⟨X, hX⟩ : ∃ X, (K.S.bs.drop a).take 512 = X := ⟨_, rfl⟩
    rw [hX]
    by_cases h2 : zeroB X = true
    · rw [if_pos h2]
      refine (next_end hr X hX hl h2).mono ?_
      rintro e w' ⟨rfl, a', hR⟩
      unfold endE
      rw [List.drop_drop, hLL, Nat.sub_sub, show (K.S.bs.drop (a + 512)).length = K.S.n - (a + 512) by rw [List.length_drop, hlen]]
      by_cases h3 : K.S.n - (a + 512) < 512
      · rw [if_pos h3, if_pos h3]
        exact ⟨⟨false, rfl⟩, hR.bel⟩
      · rw [if_neg h3, if_neg h3]
        by_cases h4 : zeroB (K.S.bs.drop (a + 512)) = false
        · rw [if_pos h4, if_pos h4]
          exact ⟨⟨false, rfl⟩, hR.bel⟩
        · rw [if_neg h4, if_neg h4]
          by_cases h5 : s.hasX = true ∨ s.name.isSome = true ∨ s.link.isSome = true
          · rw [if_pos h5, if_pos h5]
            exact ⟨⟨false, rfl⟩, hR.bel⟩
          · rw [if_neg h5, if_neg h5]
            exact ⟨rfl, a', hR⟩
    · rw [if_neg h2]
      have h2' : zeroB X = false := by simpa using h2
      by_cases h3 : (headR X).2 ≠ 0
      · rw [if_pos h3]
        exact (next_nohead hr X hX hl h2' h3).mono fun e w' h => ⟨⟨false, h.1⟩, h.2⟩
      · rw [if_neg h3]
        have h4 : headR X = ((headR X).1, 0) := Prod.ext rfl (Classical.byContradiction h3)
        by_cases h5 : isExt (headR X).1.kind = true
        · rw [if_pos h5]
          refine next_of (extD_done _ _ _) ?_
          have h6 := h5
          unfold isExt at h6
          simp only [Bool.or_eq_true, beq_iff_eq] at h6
          rcases h6 with ((h6 | h6) | h6) | h6
          · exact next_ext120 hr X hX hl h2' _ h4 h6 hN
          · exact next_ext103 hr X hX hl h2' _ h4 h6 hN
          · exact next_ext76 hr X hX hl h2' _ h4 h6 hN
          · exact next_ext75 hr X hX hl h2' _ h4 h6 hN
        · rw [if_neg h5]
          exact next_of (memD_done _ _ _) (next_add hr X hX hl h2' _ h4 (by simpa using h5) hN)
end
end Go.Proofs.YtdjedimjhogdoaaGreatDoor.Mem
end
section
namespace Go.Proofs.YtdjedimjhogdoaaGreatDoor.Mem
open Go.ChangeShapes Go.WideShapes Go.ChangeAt Go.RowKit Go.Proofs.YtdjedimjhogdoaaGreatDoor.Base Go.Proofs.YtdjedimjhogdoaaGreatDoor.Byt Go.Proofs.YtdjedimjhogdoaaGreatDoor.Txt Go.Proofs.YtdjedimjhogdoaaGreatDoor.Bk Go.Proofs.YtdjedimjhogdoaaGreatDoor.Mk Go.Proofs.YtdjedimjhogdoaaGreatDoor.Block Go.Proofs.YtdjedimjhogdoaaGreatDoor.Hp Go.Proofs.YtdjedimjhogdoaaGreatDoor.Head Go.Proofs.YtdjedimjhogdoaaGreatDoor.Attr Go.Proofs.YtdjedimjhogdoaaGreatDoor.Rec Go.Lib
set_option linter.unusedVariables false
set_option maxRecDepth 100000

theorem wait_start (q : Option Addr) (n c : Nat) : waitF startS q n c = fun _ => none := by
  funext k
  unfold waitF startS
  simp
def NewRd (w : World) (bs : List UInt8) (e : Ending) (w' : World) : Prop :=
  ∃ K : RK, e = .returned (.pointer (some ⟨K.r, 0, none⟩)) ∧ K.S.bs = bs ∧ Rd w w' K 0 startS none (.slice none 0 0) [] none 0 0
theorem newRd_end {w w1 : World} {g : Nat} {S : Sv} (hg : w.heap.size ≤ g) (ho : S.off g) (hs : Block.Src w1 g S 0 0) (hk : Kept noneB w w1) :
    Rd w (((w1.alloc (.cells #[.map none] 96)).alloc (.map #[] 0)).alloc (.cells #[.pointer (some ⟨g, 0, none⟩), .pointer (some ⟨w1.heap.size, 0, none⟩), .map (some (w1.heap.size + 1)), .slice none 0 0] 70))
      ⟨w1.heap.size + 1 + 1, g, w1.heap.size, w1.heap.size + 1, S⟩ 0 startS none (.slice none 0 0) [] none 0 0 := by
  have hgl := hs.lt
  have hka : Kept noneB w1 (((w1.alloc (.cells #[.map none] 96)).alloc (.map #[] 0)).alloc (.cells #[.pointer (some ⟨g, 0, none⟩), .pointer (some ⟨w1.heap.size, 0, none⟩), .map (some (w1.heap.size + 1)), .slice none 0 0] 70)) :=
    (((Kept.refl noneB w1).alloc _).alloc _).alloc _
  have hsz := hk.size
  have ot : ∀ y, y < w1.heap.size → ¬ Ot ⟨w1.heap.size + 1 + 1, g, w1.heap.size, w1.heap.size + 1, S⟩ none (.slice none 0 0) y := fun y hy e => by
    rcases e with e | e | e | e | e
    · have e : y = w1.heap.size + 1 + 1 := e; omega
    · have e : y = w1.heap.size := e; omega
    · have e : y = w1.heap.size + 1 := e; omega
    · cases e
    · cases e
  have hst := (St.new w1).kept (((Kept.refl noneB (w1.alloc (.cells #[.map none] 96))).alloc (.map #[] 0)).alloc (.cells #[.pointer (some ⟨g, 0, none⟩), .pointer (some ⟨w1.heap.size, 0, none⟩), .map (some (w1.heap.size + 1)), .slice none 0 0] 70)) (fun _ _ => id)
  have hmk := (mapK_made u8K (w1.alloc (.cells #[.map none] 96))).kept ((Kept.refl noneB _).alloc (.cells #[.pointer (some ⟨g, 0, none⟩), .pointer (some ⟨w1.heap.size, 0, none⟩), .map (some (w1.heap.size + 1)), .slice none 0 0] 70)) id
  have hbl := Blk.new ((w1.alloc (.cells #[.map none] 96)).alloc (.map #[] 0)) 70 #[.pointer (some ⟨g, 0, none⟩), .pointer (some ⟨w1.heap.size, 0, none⟩), .map (some (w1.heap.size + 1)), .slice none 0 0]
  simp only [World.size_alloc] at hmk hbl
  exact {
    bel := (hk.trans hka).below (Nat.le_refl _) (fun _ h => h.elim)
    blk := hbl
    src := ⟨0, hs.kept0 hka⟩
    off := ho
    st := hst
    map := by rw [wait_start]; exact hmk
    own := ⟨rfl, fun h => by omega⟩
    own0 := fun _ => rfl
    row := ⟨rfl, .inl ⟨rfl, rfl⟩⟩
    out := rfl
    bodies := fun x hx => by simp at hx
    apart := fun x hx => by simp at hx
    sp := fun h0 y hy => ot _ (bat_lt hs.bat h0 hy)
    sq := fun h0 y hy => ot _ (iat_lt hs.iat h0 hy)
    ne := ⟨by show w1.heap.size + 1 + 1 ≠ g; omega, by show w1.heap.size + 1 + 1 ≠ w1.heap.size; omega, by show w1.heap.size + 1 + 1 ≠ w1.heap.size + 1; omega, by show g ≠ w1.heap.size; omega, by show g ≠ w1.heap.size + 1; omega, by show w1.heap.size ≠ w1.heap.size + 1; omega⟩
    neB := fun b hb => by cases hb
    neV := fun b hb => by cases hb
    base := ⟨by show w.heap.size ≤ w1.heap.size + 1 + 1; omega, hg, hsz, by show w.heap.size ≤ w1.heap.size + 1; omega⟩
    many := by show 0 ≤ 4096; omega
    gl := (fun r hr => by cases hr)
    ol := ⟨(fun r hr => by cases hr), by show 0 ≤ 1048576; omega⟩
    nl := fun t ht => by cases ht
    ll := fun t ht => by cases ht }
theorem newReader_any (w : World) (p : Option Addr) (n c : Nat) (bs : List UInt8) (q : Option Addr) (m d : Nat) (zs : List Int) (hb : BAt w p n bs) (hl : bs.length = n) (hn : n ≤ 140737488351232) (hq : IAt w q m zs) (hz : zs.length = m) (hm : m * 8 ≤ 140737488351232) :
    Calls Tryz.prog 29 #[.slice p n c, .slice q m d] w (NewRd w bs) := by
  have hN := new_any w p n c bs q m d zs hb hl hn hq hz hm
  have hmm := @run_makeMap Tryz.prog
  clear hb hl hn hq hz hm
  go_enter Tryz.func29, Tryz.ntmps29
  go_wp2_with fail
  refine hN.mono ?_
  rintro e w1 ⟨g, S, rfl, h1, h2, h3, h4, h5, h6, h7, h8, h9⟩
  have F := Lib.hid (And.intro h2 (newRd_end h1 h5 h8 h9))
  clear h1 h2 h3 h4 h5 h6 h7 h8 h9 hN
  go_wp2
  go_ret
  exact ⟨⟨w1.heap.size + 1 + 1, g, w1.heap.size, w1.heap.size + 1, S⟩, rfl, F.out.1, F.out.2⟩
end Go.Proofs.YtdjedimjhogdoaaGreatDoor.Mem
end
section
namespace Go.Proofs.YtdjedimjhogdoaaGreatDoor.Mem
open Go.ChangeShapes Go.WideShapes Go.ChangeAt Go.RowKit Go.Proofs.YtdjedimjhogdoaaGreatDoor.Base Go.Proofs.YtdjedimjhogdoaaGreatDoor.Byt Go.Proofs.YtdjedimjhogdoaaGreatDoor.Txt Go.Proofs.YtdjedimjhogdoaaGreatDoor.Bk Go.Proofs.YtdjedimjhogdoaaGreatDoor.Mk Go.Proofs.YtdjedimjhogdoaaGreatDoor.Block Go.Proofs.YtdjedimjhogdoaaGreatDoor.Hp Go.Proofs.YtdjedimjhogdoaaGreatDoor.Head Go.Proofs.YtdjedimjhogdoaaGreatDoor.Attr Go.Proofs.YtdjedimjhogdoaaGreatDoor.Rec Go.Proofs.YtdjedimjhogdoaaGreatDoor.Path Go.Lib Go.Shelf
set_option linter.unusedVariables false
set_option maxRecDepth 100000

theorem ret_fault {fn : Func} (hf : fn.results = #[.tmp 4, .cell 5 28]) (tmps : Array Value) (w : World) (g : Nat) (v : Value) (ht : tmps.getD 5 undef = .pointer (some ⟨g, 0, none⟩)) (hv : tmps.getD 4 undef = v)
    (a b : Int) (hb : Blk w g 28 #[.int .i64 a, .int .i64 b]) : (results fn tmps).run Tryz.prog w = .ok (.tuple #[v, .agg #[.int .i64 a, .int .i64 b]]) w := by
  have c0 := hb.cell 0
  have c1 := hb.cell 1
  simp only [List.getElem?_toArray, List.getElem?_cons_zero, List.getElem?_cons_succ] at c0 c1
  have hl : (loadVar 28 ⟨g, 0, none⟩).run Tryz.prog w = .ok (.agg #[.int .i64 a, .int .i64 b]) w := by go_simp
  have ht' : tmps[5]?.getD undef = .pointer (some ⟨g, 0, none⟩) := by simpa using ht
  have hv' : tmps[4]?.getD undef = v := by simpa using hv
  simp only [results, hf]
  simp [Result.andThen, ht', hv', asAddr, hl]
theorem bat_off_blk {w : World} {p : Option Addr} {n : Nat} {bs : List UInt8} {b : Nat} {t : TypeId} {cs : Array Value} (h : BAt w p n bs) (hb : Blk w b t cs) (hs : ∀ (i : Nat) (x : Int), cs[i]? ≠ some (.int .u8 x)) (h0 : 0 < n) {y : Addr} (hy : p = some y) : y.block ≠ b := by
  obtain ⟨b', o, rfl, _, hc⟩ := h.cell h0
  cases hy
  rintro rfl
  have c0 := hc 0 h0
  rw [hb.cell] at c0
  exact hs _ _ c0
/-- what Read answers -/
def ReadD (w : World) (bs : List UInt8) (e : Ending) (w' : World) : Prop :=
  ∃ (p : Option Addr) (c : Nat) (xs : List MP), e = .returned (.tuple #[.slice p xs.length c, .agg #[.int .i64 (membersD bs).2.1, .int .i64 ((membersD bs).2.2 : Nat)]]) ∧ xs.length ≤ c ∧ c ≤ maxLen ∧ xs.map MP.m = (membersD bs).1 ∧ MemsAt w' p xs.length xs ∧ Below w.heap.size w w'
set_option maxHeartbeats 4000000 in
theorem memRead_any (w : World) (p : Option Addr) (n c : Nat) (bs : List UInt8) (q : Option Addr) (m d : Nat) (zs : List Int) (hb : BAt w p n bs) (hl : bs.length = n) (hn : n ≤ 140737488351232) (hq : IAt w q m zs) (hz : zs.length = m) (hm : m * 8 ≤ 140737488351232) (hN : Need w) :
    Calls Tryz.prog 12 #[.slice p n c, .slice q m d] w (ReadD w bs) := by
  obtain ⟨W1, hW1⟩ : ∃ W1, w.alloc (.cells #[.int .i64 0, .int .i64 0] 28) = W1 := ⟨_, rfl⟩
  have hB1 : Below w.heap.size w W1 := by rw [← hW1]; exact (Below.refl _ w).alloc (Nat.le_refl _) _
  have hX1 : Blk W1 w.heap.size 28 #[.int .i64 0, .int .i64 0] := by rw [← hW1]; exact Blk.new w _ _
  have hNR := newReader_any W1 p n c bs q m d zs (hb.below hB1) hl hn (hq.kept (Kept.of_below hB1 noneB) (fun _ _ _ => id)) hz hm
  have HB1 := Lib.hid hB1
  have HX1 := Lib.hid hX1
  have HND := Lib.hid (hN.below hB1)
  have HLN := Lib.hid hl
  clear hb hl hn hq hz hm hN hB1 hX1
  go_enter Tryz.func12, Tryz.ntmps12
  go_upto_region 1 with fail
  clear hW1
  go_wp2_with fail
  refine hNR.mono ?_
  rintro e w2 ⟨K, rfl, hbs, hR⟩
  have HBS := Lib.hid hbs
  have HR := Lib.hid hR
  clear hbs hR hNR
  go_wp2_with fail
  go_loopg [7, 8, 9] bs.length (fun g s7 s8 s9 wr => Hid (∃ (a : Nat) (s : RS) (mb : Option Nat) (v : Value) (xs : List MP) (q : Option Addr) (n c : Nat), Rd W1 wr K a s mb v xs q n c ∧ readFrom bs 0 startS = readFrom (bs.drop a) a s ∧ g = bs.length - a))
  case atStart => exact Lib.hid ⟨0, startS, none, .slice none 0 0, [], none, 0, 0, HR.out, by rw [List.drop_zero], rfl⟩
  case round =>
    obtain ⟨a, s, mb, v, xs, q, n, c, hR, hrf, rfl⟩ := hrel.out
    obtain ⟨t, hs⟩ := hR.src
    have hP := place_any wr K.g a t K.S hs
    have hNx := next_any hR HND.out
    rw [HBS.out] at hNx
    have x0 := hR.c0
    have HRD := Lib.hid hR
    have HRF := Lib.hid hrf
    obtain ⟨st, hst⟩ : ∃ st, stepD (bs.drop a) s = st := ⟨_, rfl⟩
    rw [hst] at hNx
    have HST := Lib.hid hst
    have hXr := HX1.out.below hR.bel HX1.out.lt
    clear hR hrf hs hst hrel
    go_wp2_with fail
    refine hP.mono ?_
    rintro e w3 ⟨rfl, rfl⟩
    go_wp2_with fail
    refine hNx.mono ?_
    clear hNx hP hXr
    intro e w4 hp
    cases st with
    | fault er =>
      obtain ⟨⟨b, rfl⟩, hb4⟩ := hp
      have hne := step_fault HST.out
      have hE0 : (er != 0) = true := by simpa using hne
      have b4 := HX1.out.below hb4 HX1.out.lt
      have r0 := b4.cell 0
      have r1 := b4.cell 1
      have f0 := b4.frozen 0
      have f1 := b4.frozen 1
      simp only [List.getElem?_toArray, List.getElem?_cons_zero, List.getElem?_cons_succ] at r0 r1
      have HX4 := Lib.hid b4
      have HB4 := Lib.hid hb4
      have E : Hid (membersD bs = ([], er, a)) := Lib.hid (by
        show readFrom bs 0 startS = _
        rw [HRF.out, readFrom_fault HST.out])
      clear hb4 hne b4 x0
      go_wp2
      refine bodyPost_ret (ret_fault rfl _ _ w.heap.size _ rfl rfl er (a : Int) ((HX4.out.set 0 (.int .i64 er) (by decide : 0 < 2)).set 1 (.int .i64 (a : Int)) (by decide : 1 < 2))) rfl ?_
      refine ⟨none, 0, [], ?_, by simp, by decide, ?_, mems_nil _ _, ?_⟩
      · rw [E.out]; rfl
      · rw [E.out]; rfl
      · exact ((HB1.out.trans (HB4.out.mono HB1.out.size)).setCell (p := ⟨w.heap.size, 0, none⟩) (Nat.le_refl _) _).setCell (p := ⟨w.heap.size, 1, none⟩) (Nat.le_refl _) _
    | done =>
      obtain ⟨rfl, a', hR4⟩ := hp
      have b4 := HX1.out.below hR4.bel HX1.out.lt
      have r0 := b4.cell 0
      have r1 := b4.cell 1
      have f0 := b4.frozen 0
      have f1 := b4.frozen 1
      simp only [List.getElem?_toArray, List.getElem?_cons_zero, List.getElem?_cons_succ] at r0 r1
      have HX4 := Lib.hid b4
      have x3 := hR4.c3
      have HR4 := Lib.hid hR4
      have E : Hid (membersD bs = (s.out, 0, 0)) := Lib.hid (by
        show readFrom bs 0 startS = _
        rw [HRF.out, readFrom_done HST.out])
      clear hR4 b4 x0
      go_wp2
      have hb5 : Below w.heap.size w ((w4.setCell ⟨w.heap.size, 0, none⟩ (.int .i64 0)).setCell ⟨w.heap.size, 1, none⟩ (.int .i64 0)) :=
        ((HB1.out.trans (HR4.out.bel.mono HB1.out.size)).setCell (p := ⟨w.heap.size, 0, none⟩) (Nat.le_refl _) _).setCell (p := ⟨w.heap.size, 1, none⟩) (Nat.le_refl _) _
      refine bodyPost_ret (ret_fault rfl _ _ w.heap.size _ rfl rfl 0 0 ((HX4.out.set 0 (.int .i64 0) (by decide : 0 < 2)).set 1 (.int .i64 0) (by decide : 1 < 2))) rfl ?_
      have hk5 : Kept (oneB w.heap.size) w4 ((w4.setCell ⟨w.heap.size, 0, none⟩ (.int .i64 0)).setCell ⟨w.heap.size, 1, none⟩ (.int .i64 0)) :=
        ((Kept.refl (oneB w.heap.size) w4).setCell (a := ⟨w.heap.size, 0, none⟩) (.inr rfl) _).setCell (a := ⟨w.heap.size, 1, none⟩) (.inr rfl) _
      have hx1 := HX1.out.lt
      obtain ⟨p5, c5, rfl, h51, h52, h53⟩ := mems_own (ownsRow_kept HR4.out.row hk5 (fun k hk e => by
        have h1 := (HR4.out.row.lt k hk).1
        have h2 : k = w.heap.size := e
        omega)) (fun x hx => (HR4.out.bodies x hx).kept hk5 (fun h0 y hy e => bat_off_blk (HR4.out.bodies x hx).bat HX4.out (fun i z hz => by rcases i with _ | _ | i <;> simp at hz) h0 hy e))
      refine ⟨p5, c5, xs, ?_, h51, h52, ?_, h53, hb5⟩
      · rw [E.out]; rfl
      · rw [E.out]; exact HR4.out.out
    | next k s' =>
      obtain ⟨rfl, mb', v', xs', q', n', c', hR4⟩ := hp
      have HR4 := Lib.hid hR4
      have hstep := step_next HST.out
      have E : Hid (readFrom bs 0 startS = readFrom (bs.drop (a + k)) (a + k) s') := Lib.hid (by
        rw [HRF.out, readFrom_next HST.out, List.drop_drop])
      have HSTEP := Lib.hid hstep
      clear hR4 hstep x0
      go_wp2
      go_roundg (bs.length - (a + k))
      case measure => have := HSTEP.out; rw [List.length_drop] at this; omega
      case rel => exact Lib.hid ⟨a + k, s', mb', v', xs', q', n', c', HR4.out, E.out, rfl⟩
end Go.Proofs.YtdjedimjhogdoaaGreatDoor.Mem
end
section
namespace Go.Proofs.YtdjedimjhogdoaaGreatDoor.Mem
open Go.ChangeShapes Go.WideShapes Go.ChangeAt Go.RowKit Go.Proofs.YtdjedimjhogdoaaGreatDoor.Base Go.Proofs.YtdjedimjhogdoaaGreatDoor.Byt Go.Proofs.YtdjedimjhogdoaaGreatDoor.Txt Go.Proofs.YtdjedimjhogdoaaGreatDoor.Bk Go.Proofs.YtdjedimjhogdoaaGreatDoor.Hp Go.Proofs.YtdjedimjhogdoaaGreatDoor.Head Go.Proofs.YtdjedimjhogdoaaGreatDoor.Num Go.Proofs.YtdjedimjhogdoaaGreatDoor.Path Go.Proofs.YtdjedimjhogdoaaGreatDoor.Block Go.Proofs.YtdjedimjhogdoaaGreatDoor.Rec Go.Proofs.YtdjedimjhogdoaaGreatDoor.Mp Go.Lib
set_option linter.unusedVariables false
set_option maxRecDepth 100000

def oneM : MemV := ⟨[97], [], 48, 0, 0, 0, 0, [120]⟩
theorem ret_mem0 {fn : Func} (hf : fn.results = #[.cell 0 37]) (tmps : Array Value) (w : World) (g : Nat) (y : MP) (ht : tmps.getD 0 undef = .pointer (some ⟨g, 0, none⟩))
    (hb : Blk w g 37 y.cs) : (results fn tmps).run Tryz.prog w = .ok (.agg y.cs) w := by
  have c0 := hb.cell
  have hl : (loadVar 37 ⟨g, 0, none⟩).run Tryz.prog w = .ok (.agg y.cs) w := by
    unfold MP.cs memC at c0 ⊢
    go_simp
  have ht' : tmps[0]?.getD undef = .pointer (some ⟨g, 0, none⟩) := by simpa using ht
  simp only [results, hf]
  simp [ht', asAddr, hl]
theorem one_any (w : World) : Calls Tryz.prog 28 #[] w fun e w' => ∃ p, e = .returned (.agg #[.string ⟨#[97]⟩, .string ⟨#[]⟩, .int .u8 48, .int .i64 0, .int .i64 0, .int .i64 0, .int .i64 0, .slice p 1 1]) ∧ Below w.heap.size w w' ∧ BAt w' p 1 [120] := by
  have kc : (convert 22 22 (.slice (some ⟨w.heap.size + 1, 0, none⟩) 1 1)).run Tryz.prog ((w.alloc (.cells #[.string ⟨#[]⟩, .string ⟨#[]⟩, .int .u8 0, .int .i64 0, .int .i64 0, .int .i64 0, .int .i64 0, .slice none 0 0] 37)).alloc (.cells #[.int .u8 120] 5)) = .ok (.slice (some ⟨w.heap.size + 1, 0, none⟩) 1 1) ((w.alloc (.cells #[.string ⟨#[]⟩, .string ⟨#[]⟩, .int .u8 0, .int .i64 0, .int .i64 0, .int .i64 0, .int .i64 0, .slice none 0 0] 37)).alloc (.cells #[.int .u8 120] 5 (1, 2))) := by
    have hq := Lib.run_convert_bytes_const (P := Tryz.prog) (w.alloc (.cells #[.string ⟨#[]⟩, .string ⟨#[]⟩, .int .u8 0, .int .i64 0, .int .i64 0, .int .i64 0, .int .i64 0, .slice none 0 0] 37)) 22 5 #[.int .u8 120] 1 1 Tryz.underlying22 Tryz.underlying5
    have hz : (w.alloc (.cells #[.string ⟨#[]⟩, .string ⟨#[]⟩, .int .u8 0, .int .i64 0, .int .i64 0, .int .i64 0, .int .i64 0, .slice none 0 0] 37)).heap.size = w.heap.size + 1 := by simp
    rw [hz] at hq
    exact hq
  go_enter Tryz.func28, Tryz.ntmps28
  go_wp2
  obtain ⟨w1, h1⟩ : ∃ w1, w.alloc (.cells #[.string ⟨#[97]⟩, .string ⟨#[]⟩, .int .u8 48, .int .i64 0, .int .i64 0, .int .i64 0, .int .i64 0, .slice (some ⟨w.heap.size + 1, 0, none⟩) 1 1] 37) = w1 := ⟨_, rfl⟩
  have hs : w1.heap.size = w.heap.size + 1 := by rw [← h1]; simp
  have hb : Blk w1 w.heap.size 37 (memC oneM (some ⟨w.heap.size + 1, 0, none⟩) 1) := by rw [← h1]; exact Blk.new w _ _
  have hb1 : Below w.heap.size w w1 := by rw [← h1]; exact (Below.refl _ _).alloc (Nat.le_refl _) _
  rw [h1]
  clear h1
  refine bodyPost_ret (ret_mem0 rfl _ _ w.heap.size ⟨oneM, some ⟨w.heap.size + 1, 0, none⟩, 1⟩ rfl (hb.below ((Below.refl _ _).alloc (Nat.le_refl _) _) hb.lt)) rfl ?_
  refine ⟨_, rfl, hb1.alloc hb1.size _, fun _ => ⟨w.heap.size + 1, 0, rfl, fun i hi => ?_⟩⟩
  obtain rfl : i = 0 := by omega
  rw [← hs]
  unfold World.cell?
  rw [heap_alloc_new]
  rfl
theorem mems_blk {w : World} {b : Nat} {y : MP} (hb : Blk w b 37 y.cs) (hB : BodyAt w y) : MemsAt w (some ⟨b, 0, none⟩) 1 [y] := by
  refine ⟨rfl, fun x hx => by rw [List.mem_singleton] at hx; subst hx; exact hB, fun _ => ⟨b, 0, rfl, hb.lt, fun i hi j hj => ?_⟩⟩
  obtain rfl : i = 0 := by omega
  rw [show 0 + 8 * 0 + j = j by omega]
  exact hb.cell j
theorem iat_nil (w : World) : IAt w none 0 [] := fun h => absurd h (by decide)
theorem oneM_good : GoodM oneM := good_facts (by decide +kernel)
theorem read_oneM : membersD (archD ([⟨oneM, none, 0⟩].map MP.m)) = ([oneM], 0, 0) := by
  have := read_arch (ms := [oneM]) (by intro m hm; rw [List.mem_singleton] at hm; subst hm; exact oneM_good) (by decide) 0
  rw [List.replicate_zero, List.append_nil] at this
  exact this
theorem archD_len {ms : List MemV} (h : ∀ m ∈ ms, GoodM m) (hl : ms.length ≤ 100) : (archD ms).length ≤ 400000000 := by
  have := putAllM_len ms h
  rw [archD_eq, List.length_append, List.length_replicate]
  omega
theorem sameOne_any (y : MP) (hy : y.m = oneM) (w : World) (hB : BodyAt w y) (p : Option Addr) (hb : BAt w p 1 [120]) :
    Calls Tryz.prog 17 #[.agg #[.string (str y.m.path), .string (str y.m.target), .int .u8 (y.m.kind.toNat : Int), .int .i64 y.m.mode, .int .i64 y.m.uid, .int .i64 y.m.gid, .int .i64 y.m.time, .slice y.p y.m.body.length y.c], .agg #[.string ⟨#[97]⟩, .string ⟨#[]⟩, .int .u8 48, .int .i64 0, .int .i64 0, .int .i64 0, .int .i64 0, .slice p 1 1]] w
      fun e w' => e = .returned (.bool true) ∧ Below w.heap.size w w' := by
  have := same_any y.m oneM y.p p y.c 1 w hB.bat hb
  rw [show decide (y.m = oneM) = true from decide_eq_true hy] at this
  exact this
theorem goodOne_any (p : Option Addr) (w : World) (hT : Tabs w) :
    Calls Tryz.prog 15 #[.agg #[.string ⟨#[97]⟩, .string ⟨#[]⟩, .int .u8 48, .int .i64 0, .int .i64 0, .int .i64 0, .int .i64 0, .slice p 1 1]] w fun e w' => e = .returned (.bool true) ∧ Below w.heap.size w w' := by
  have := memGood_any oneM p 1 w (by decide) (by decide) hT
  rw [show goodD oneM = true by decide +kernel] at this
  exact this
theorem goodZero_any (w : World) (hT : Tabs w) :
    Calls Tryz.prog 15 #[.agg #[.string ⟨#[]⟩, .string ⟨#[]⟩, .int .u8 0, .int .i64 0, .int .i64 0, .int .i64 0, .int .i64 0, .slice none 0 0]] w fun e w' => e = .returned (.bool false) ∧ Below w.heap.size w w' := by
  have := memGood_any zeroM none 0 w (by decide) (by decide) hT
  rw [show goodD zeroM = false by decide +kernel] at this
  exact this
theorem read_zeros : membersD (List.replicate 512 0) = ([], 2, 0) := end_cut startS 512 (by decide) 0
set_option maxHeartbeats 4000000 in
theorem ans08_any (w : World) (hN : Need w) : Calls Tryz.prog 11 #[] w fun e w' => e = .returned (.bool true) ∧ Below w.heap.size w w' := by
  have mk : ∀ w : World, (Instr.makeSlice 22 (.int .i64 512) (.int .i64 512)).run Tryz.prog w = .ok (.slice (some ⟨w.heap.size, 0, none⟩) 512 512) (w.alloc (.cells (madeCells #[.int .u8 0] 512) 5)) := fun w => by
    obtain ⟨i0, hi0, hz0, hz1, hz2⟩ := info_parts infoU8
    have h := run_makeSlice (P := Tryz.prog) w 22 5 i0 (.int .u8 0) Tryz.underlying22 hi0 hz0 .i64 .i64 512 512 (by decide) (by decide) (by rw [hz1]; decide) (by rw [hz2]; decide) (by decide)
    rw [hz1] at h
    exact h
  have HN := Lib.hid hN
  clear hN
  go_enter Tryz.func11, Tryz.ntmps11
  go_wp2_with fail
  refine (one_any _).mono ?_
  rintro e w1 ⟨p1, rfl, hb1, hbt1⟩
  have HM : Hid (MemsAt (w1.alloc (.cells #[.string ⟨#[97]⟩, .string ⟨#[]⟩, .int .u8 48, .int .i64 0, .int .i64 0, .int .i64 0, .int .i64 0, .slice p1 1 1] 37)) (some ⟨w1.heap.size, 0, none⟩) 1 [⟨oneM, p1, 1⟩]) := Lib.hid (mems_blk (y := ⟨oneM, p1, 1⟩) (Blk.new w1 _ _) ⟨hbt1.below ((Below.refl _ _).alloc (Nat.le_refl _) _), Nat.le_refl 1, (by decide : (1 : Nat) ≤ maxLen)⟩)
  have HB1 := Lib.hid (hb1.alloc hb1.size (.cells #[.string ⟨#[97]⟩, .string ⟨#[]⟩, .int .u8 48, .int .i64 0, .int .i64 0, .int .i64 0, .int .i64 0, .slice p1 1 1] 37))
  clear hbt1 hb1
  go_wp2_with fail
  refine (rarch_any _ _ 1 1 [⟨oneM, p1, 1⟩] HM.out (fun x hx => by rw [List.mem_singleton] at hx; subst hx; exact oneM_good) (by decide)).mono ?_
  rintro e w2 ⟨v2, rfl, ho2, hk2⟩
  obtain ⟨p2, c2, rfl, _, _, hb2, _, _⟩ := ho2.slice
  have hL := archD_len (ms := [oneM]) (fun x hx => by rw [List.mem_singleton] at hx; subst hx; exact oneM_good) (by decide)
  have HB2 := Lib.hid (HB1.out.trans (hk2.below HB1.out.size (fun _ h => h.elim)))
  have hR := memRead_any w2 p2 _ c2 _ none 0 0 [] hb2 rfl (by show (archD [oneM]).length ≤ _; omega) (iat_nil _) rfl (by decide) (HN.out.below HB2.out)
  unfold ReadD at hR
  rw [show ([⟨oneM, p1, 1⟩] : List MP).map MP.m = [⟨oneM, none, 0⟩].map MP.m from rfl, read_oneM] at hR
  have HR := Lib.hid hR
  clear hR hL hk2 hb2 ho2
  go_wp2_with fail
  refine HR.out.mono ?_
  rintro e w3 ⟨p3, c3, xs3, rfl, _, _, hx3, hm3, hb3⟩
  obtain ⟨y, rfl⟩ : ∃ y, xs3 = [y] := by
    cases xs3 with
    | nil => exact absurd (congrArg List.length hx3) (by simp)
    | cons y t =>
      cases t with
      | nil => exact ⟨y, rfl⟩
      | cons _ _ => exact absurd (congrArg List.length hx3) (by simp)
  have HY : Hid (y.m = oneM) := Lib.hid (by simpa using hx3)
  obtain ⟨b3, o3, rfl, hbw3, hBd3, hc3⟩ := hm3.cells8 (i := 0) (by show 0 < 1; decide)
  have HC3 : Hid (Cells8 w3 b3 o3 y) := Lib.hid (by simpa using hc3)
  have HBd3 : Hid (BodyAt w3 y) := Lib.hid (by simpa using hBd3)
  have HW3 := Lib.hid hbw3
  have HB3 := Lib.hid (HB2.out.trans (hb3.mono HB2.out.size))
  clear hx3 hm3 hb3 hBd3 hc3 hbw3 HR
  go_wp2_with fail
  have HB4 : Hid (Below w.heap.size w ((w3.alloc (.cells #[.int .i64 0, .int .i64 0] 28)).alloc (.cells (madeCells #[.int .u8 0] 512) 5))) := Lib.hid ((HB3.out.alloc HB3.out.size _).alloc (HB3.out.alloc HB3.out.size _).size _)
  have hz4 : (w3.alloc (.cells #[.int .i64 0, .int .i64 0] 28)).heap.size = w3.heap.size + 1 := by simp
  have hr4 := (rowB_made (w3.alloc (.cells #[.int .i64 0, .int .i64 0] 28)) 512).bat
  rw [hz4, List.length_replicate] at hr4
  have hR4 := memRead_any _ (some ⟨w3.heap.size + 1, 0, none⟩) 512 512 (List.replicate 512 0) none 0 0 [] hr4 (List.length_replicate ..) (by decide) (iat_nil _) rfl (by decide) (HN.out.below HB4.out)
  unfold ReadD at hR4
  rw [read_zeros] at hR4
  have hF4 : Blk ((w3.alloc (.cells #[.int .i64 0, .int .i64 0] 28)).alloc (.cells (madeCells #[.int .u8 0] 512) 5)) w3.heap.size 28 #[.int .i64 0, .int .i64 0] := (Blk.new w3 _ _).below ((Below.refl _ _).alloc (Nat.le_refl _) _) (Blk.new w3 _ _).lt
  have h34 : Below w3.heap.size w3 ((w3.alloc (.cells #[.int .i64 0, .int .i64 0] 28)).alloc (.cells (madeCells #[.int .u8 0] 512) 5)) := ((Below.refl _ w3).alloc (Nat.le_refl _) _).alloc ((Below.refl _ w3).alloc (Nat.le_refl _) _).size _
  obtain ⟨w4, hw4⟩ : ∃ w4, (w3.alloc (.cells #[.int .i64 0, .int .i64 0] 28)).alloc (.cells (madeCells #[.int .u8 0] 512) 5) = w4 := ⟨_, rfl⟩
  rw [hw4] at HB4 hR4 hF4 h34 ⊢
  clear hw4 hr4 hz4
  refine hR4.mono ?_
  rintro e w5 ⟨p5, c5, xs5, rfl, _, _, hx5, _, hb5⟩
  obtain rfl : xs5 = [] := by simpa using hx5
  go_upto_region 3 with fail
  obtain ⟨w6, hw6⟩ : ∃ w6, w5.alloc (.cells #[.int .i64 2, .int .i64 0] 28) = w6 := ⟨_, rfl⟩
  have h56 : Below w5.heap.size w5 w6 := by rw [← hw6]; exact (Below.refl _ _).alloc (Nat.le_refl _) _
  have hG6 : Blk w6 w5.heap.size 28 #[.int .i64 2, .int .i64 0] := by rw [← hw6]; exact Blk.new w5 _ _
  have h46 : Below w4.heap.size w4 w6 := hb5.trans (h56.mono hb5.size)
  have h36 : Below w3.heap.size w3 w6 := h34.trans (h46.mono h34.size)
  have hF6 := hF4.below h46 hF4.lt
  have HN6 := Lib.hid (HN.out.below (HB4.out.trans (h46.mono HB4.out.size)))
  have HB6 := Lib.hid (HB4.out.trans (h46.mono HB4.out.size))
  have HC6 := HC3.out.below HW3.out h36
  have HBd6 := Lib.hid (HBd3.out.below h36)
  have hW6 : b3 < w6.heap.size := Nat.lt_of_lt_of_le HW3.out h36.size
  have HCC : Hid (∀ w', Below w6.heap.size w6 w' → (w'.cell? ⟨w3.heap.size, 0, none⟩ = some (.int .i64 0) ∧ w'.cell? ⟨w5.heap.size, 0, none⟩ = some (.int .i64 2)) ∧ Cells8 w' b3 o3 y) := Lib.hid (fun w' h =>
    ⟨⟨(hF6.below h hF6.lt).cell 0, (hG6.below h hG6.lt).cell 0⟩, HC6.below hW6 h⟩)
  unfold Cells8 at HCC
  have HBB : Hid (Below w6.heap.size w6 w6.drew) := Lib.hid (below_drewN (Below.refl w6.heap.size w6) 1)
  have MARK : Hid (0 = 0) := Lib.hid rfl
  rw [hw6]
  clear hw6 h56 hG6 h46 h36 hF6 HC6 hW6 hb5 hF4 h34 hx5 hR4 HN HC3 HM HB1 HB2 HB3
  go_region_held3 (fun w' => (w'.cell? ⟨w3.heap.size, 0, none⟩ = some (.int .i64 0) ∧ w'.cell? ⟨w5.heap.size, 0, none⟩ = some (.int .i64 2)) ∧ (w'.cell? ⟨b3, o3, none⟩ = some (.string (str y.m.path)) ∧ w'.cell? ⟨b3, o3 + 1, none⟩ = some (.string (str y.m.target)) ∧ w'.cell? ⟨b3, o3 + 2, none⟩ = some (.int .u8 (y.m.kind.toNat : Int)) ∧ w'.cell? ⟨b3, o3 + 3, none⟩ = some (.int .i64 y.m.mode) ∧ w'.cell? ⟨b3, o3 + 4, none⟩ = some (.int .i64 y.m.uid) ∧ w'.cell? ⟨b3, o3 + 5, none⟩ = some (.int .i64 y.m.gid) ∧ w'.cell? ⟨b3, o3 + 6, none⟩ = some (.int .i64 y.m.time) ∧ w'.cell? ⟨b3, o3 + 7, none⟩ = some (.slice y.p y.m.body.length y.c))) (exact HCC.out _ HBB.out) (first
    | (go_at_call 28
       refine (one_any _).mono ?_
       rintro e wa ⟨pa, rfl, hba, hbt⟩
       have HBT := Lib.hid hbt
       have HBB := Lib.hid (HBB.out.trans (hba.mono HBB.out.size))
       clear hba hbt)
    | (go_at_call 17
       refine (sameOne_any y HY.out _ (HBd6.out.below HBB.out) _ HBT.out).mono ?_
       rintro e wa ⟨rfl, hba⟩
       have HBB := Lib.hid (HBB.out.trans (hba.mono HBB.out.size))
       clear hba)
    | (go_at_call 15
       clear MARK
       refine (goodOne_any _ _ (HN6.out.below HBB.out).tabs).mono ?_
       rintro e wa ⟨rfl, hba⟩
       have HBB := Lib.hid (HBB.out.trans (hba.mono HBB.out.size))
       clear hba)
    | (go_at_call 15
       refine (goodZero_any _ (HN6.out.below HBB.out).tabs).mono ?_
       rintro e wa ⟨rfl, hba⟩
       have HBB := Lib.hid (HBB.out.trans (hba.mono HBB.out.size))
       clear hba))
  all_goals
    have HF := Lib.hid (HB6.out.trans (HBB.out.mono HB6.out.size))
    go_wp2
    go_ret
    exact ⟨rfl, HF.out⟩
end Go.Proofs.YtdjedimjhogdoaaGreatDoor.Mem
end
