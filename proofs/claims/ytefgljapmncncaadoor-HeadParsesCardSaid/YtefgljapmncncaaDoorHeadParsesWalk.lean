/- The walk over HeadParses: it returns true for every input, and writes nothing that was there. -/
import Derived.Test.YtefgljapmncncaaDoorHeadAns
import Derived.Test.YtefgljapmncncaaDoorRefHead
import Derived.Test.YtefgljapmncncaaDoorBytApp
namespace Go.Proofs.YtefgljapmncncaaDoor.Walk
open Go.ChangeShapes Go.WideShapes Go.ChangeAt Go.RowKit Go.Proofs.YtefgljapmncncaaDoor.Base Go.Proofs.YtefgljapmncncaaDoor.Byt Go.Proofs.YtefgljapmncncaaDoor.Hp Go.Proofs.YtefgljapmncncaaDoor.Mp Go.Proofs.YtefgljapmncncaaDoor.Fp Go.Proofs.YtefgljapmncncaaDoor.Field Go.Proofs.YtefgljapmncncaaDoor.Head Go.Lib
set_option linter.unusedVariables false
set_option maxRecDepth 100000

set_option maxHeartbeats 4000000 in
theorem headParses (a : Option Addr) (len cap : Nat) (zs : List Int) (w : World) (w0 : IsRow .u8 w a len cap zs) (b0 : cap * 1 ≤ 140737488351232) :
    Calls Tryd.prog 3 #[.slice a len cap] w fun e w' => e = .returned (.bool true) ∧ Below w.heap.size w w' := by
  have fin : ∀ (w' : World), Kept noneB w w' → Below w.heap.size w w' := fun _ h => h.below (Nat.le_refl _) fun _ h => h.elim
  have FIN := Lib.hid fin
  clear fin
  obtain ⟨hbat, hlen, hlc, hcm⟩ := bat_of_row w0
  obtain ⟨bs, hbs⟩ : ∃ bs, bs = bytesOf (zs.take len) := ⟨_, rfl⟩
  rw [← hbs] at hbat hlen
  clear hbs w0
  have hm' : len ≤ 9223372036854775807 := by unfold maxLen at hcm; omega
  have H := Lib.hid hbat
  have HL := Lib.hid hlen
  clear hbat hlen
  by_cases hlong : 2000 < len
  · go_enter Tryd.func3, Tryd.ntmps3
    go_wp2_with fail
    refine (ans04_any _).mono ?_
    rintro e w1 ⟨rfl, hk1⟩
    go_wp2
    go_ret
    exact ⟨rfl, FIN.out _ hk1⟩
  · obtain ⟨i0, hi, hz0, hz1, hz2⟩ := info_parts infoByte
    have HI := Lib.hid hi
    have HZ0 := Lib.hid hz0
    have HZ1 := Lib.hid hz1
    have HZ2 := Lib.hid hz2
    clear hi hz0 hz1 hz2
    obtain ⟨h, er, hh⟩ : ∃ h er, headR bs = (h, er) := ⟨_, _, rfl⟩
    have HH : Hid (headA (headR bs) = .tuple #[.agg #[.string (str h.name), .string (str h.link), .int .u8 (h.kind.toNat : Int), .int .i64 h.mode, .int .i64 h.uid, .int .i64 h.gid, .int .i64 h.time, .int .i64 h.size, .bool h.gnu], .int .i64 er]) := Lib.hid (by rw [hh]; rfl)
    have EQ := fun w => eqH h h w
    rw [show decide (h = h) = true from decide_eq_true rfl] at EQ
    unfold headC at EQ
    clear hh
    go_enter Tryd.func3, Tryd.ntmps3
    go_wp2_with (at_builtin; refine append_bytes rfl _ _ 22 rfl w.heap.size 5 i0 Tryd.underlying22 HI.out HZ0.out HZ1.out HZ2.out _ 0 [] rfl (World.ownsRow_made w #[] 0 (Nat.le_refl _) (by decide) rfl) a len cap bs rfl (H.out.alloc _) HL.out (by omega) (by simp) ?_)
    intro v' w1 hown hgrow
    have hbel : Below w.heap.size w w1 := ((Below.refl _ _).alloc (Nat.le_refl _) _).grown hgrow (by simp) (by intro k hk; simp [Value.ownBlock] at hk; omega)
    obtain ⟨p, c, rfl, hc, hm, hbat, hbl⟩ := bat_of_own hown (nums_bd bs)
    rw [bytesOf_nums] at hbat
    have HB := Lib.hid hbat
    have HK1 := Lib.hid (Kept.of_below hbel noneB)
    clear hown hgrow hbel hbat hbl
    go_wp2_with fail
    refine (parseH_any p len c bs w1 HL.out hc hm HB.out).mono ?_
    rintro e w2 ⟨rfl, hk2⟩
    rw [HH.out]
    have HK2 := Lib.hid (HK1.out.trans hk2)
    obtain ⟨w3, hw3⟩ : ∃ w3, w3 = w2.alloc (.cells #[.string (str h.name), .string (str h.link), .int .u8 (h.kind.toNat : Int), .int .i64 h.mode, .int .i64 h.uid, .int .i64 h.gid, .int .i64 h.time, .int .i64 h.size, .bool h.gnu] 27) := ⟨_, rfl⟩
    obtain ⟨g, hg⟩ : ∃ g, g = w2.heap.size := ⟨_, rfl⟩
    have HG3 : Hid (w3.heap[g]? = some (.cells (headC h) 27 (0, 0))) := Lib.hid (by rw [hw3, hg]; exact heap_alloc_new _ _)
    have HK3 : Hid (Kept noneB w w3) := Lib.hid (by rw [hw3]; exact HK2.out.alloc _)
    clear hk2
    go_wp2_with fail
    rw [← hw3, ← hg]
    clear hw3 hg
    refine (rhead_any a len cap bs w3 HL.out hlc (by omega) (H.out.kept HK3.out (fun _ _ _ => id))).mono ?_
    rintro e w4 ⟨rfl, hk4⟩
    rw [HH.out]
    obtain ⟨w5, hw5⟩ : ∃ w5, w5 = w4.alloc (.cells #[.string (str h.name), .string (str h.link), .int .u8 (h.kind.toNat : Int), .int .i64 h.mode, .int .i64 h.uid, .int .i64 h.gid, .int .i64 h.time, .int .i64 h.size, .bool h.gnu] 27) := ⟨_, rfl⟩
    obtain ⟨g', hg'⟩ : ∃ g', g' = w4.heap.size := ⟨_, rfl⟩
    have HG5' : Hid (w5.heap[g']? = some (.cells (headC h) 27 (0, 0))) := Lib.hid (by rw [hw5, hg']; exact heap_alloc_new _ _)
    have HK5a : Hid (Kept noneB w3 w5) := Lib.hid (by rw [hw5]; exact hk4.alloc _)
    have HK5 := Lib.hid (HK3.out.trans HK5a.out)
    clear hk4
    go_wp2_with fail
    rw [← hw5, ← hg']
    clear hw5 hg'
    refine (ans04_any _).mono ?_
    rintro e w6 ⟨rfl, hk6⟩
    have l1 := load_head w6 g _ _ _ _ _ _ _ _ _ (hk6.some_ (HK5a.out.some_ HG3.out id) id)
    have l2 := load_head w6 g' _ _ _ _ _ _ _ _ _ (hk6.some_ HG5'.out id)
    have c1 := cellsAt (hk6.some_ (HK5a.out.some_ HG3.out id) id)
    have c2 := cellsAt (hk6.some_ HG5'.out id)
    unfold headC at c1 c2
    go_wp2
    go_ret
    exact ⟨rfl, FIN.out _ (HK5.out.trans hk6)⟩
end Go.Proofs.YtefgljapmncncaaDoor.Walk
