/- Layer record's own functions, by contract: Line, Put, Parse. -/
import Derived.Test.YtodlkjlcihcciaaDoorRecRecords
import Derived.Test.YtodlkjlcihcciaaDoorRecSame
import Derived.Test.YtodlkjlcihcciaaDoorRecMay
import Derived.Test.YtodlkjlcihcciaaDoorRecCount
import Derived.Test.YtodlkjlcihcciaaDoorRecCutB
import Derived.Lib.AppendStr
namespace Go.Proofs.YtodlkjlcihcciaaDoor.Rec
open Go.ChangeShapes Go.WideShapes Go.ChangeAt Go.RowKit Go.Proofs.YtodlkjlcihcciaaDoor.Base Go.Proofs.YtodlkjlcihcciaaDoor.Byt Go.Proofs.YtodlkjlcihcciaaDoor.Txt Go.Proofs.YtodlkjlcihcciaaDoor.Path Go.Lib
set_option linter.unusedVariables false
set_option maxRecDepth 100000

set_option maxHeartbeats 1000000 in
theorem recLine_any (k v : List UInt8) (w : World) (hk : k.length ≤ 1000000000000) (hv : v.length ≤ 1000000000000) (hkv : k.length + v.length ≤ 1000000000000) (hN : Need w) :
    Calls Tryd.prog 13 #[.agg #[.string (str k), .string (str v)]] w fun e w' =>
      e = .returned (.tuple #[.string (str (if mayD k v then lineD k v else [])), .bool (mayD k v)]) ∧ Below w.heap.size w w' := by
  have HMAY := Lib.hid (fun w1 h => recMayBe_any k v w1 hk hv h)
  have HT := Lib.hid hN
  obtain ⟨a, ha⟩ : ∃ a, a = str k := ⟨_, rfl⟩
  obtain ⟨b, hb⟩ : ∃ b, b = str v := ⟨_, rfl⟩
  obtain ⟨n1, hn1⟩ : ∃ n, a.size = n := ⟨_, rfl⟩
  obtain ⟨n2, hn2⟩ : ∃ n, b.size = n := ⟨_, rfl⟩
  have m1 : k.length = n1 := by rw [← hn1, ha, str_size]
  have m2 : v.length = n2 := by rw [← hn2, hb, str_size]
  have hbd : (⟨#[32]⟩ : ByteArray) ++ a ++ ⟨#[61]⟩ ++ b ++ ⟨#[10]⟩ = str (bodyD k v) := by
    rw [ha, hb, show (⟨#[32]⟩ : ByteArray) = str [32] from rfl, show (⟨#[61]⟩ : ByteArray) = str [61] from rfl, show (⟨#[10]⟩ : ByteArray) = str [10] from rfl, Txt.str_app, Txt.str_app, Txt.str_app, Txt.str_app]
    simp [bodyD]
  have s1 : 1 + n1 ≤ 9223372036854775807 := by omega
  have s2 : 1 + n1 + 1 ≤ 9223372036854775807 := by omega
  have s3 : 1 + n1 + 1 + n2 ≤ 9223372036854775807 := by omega
  have s4 : 1 + n1 + 1 + n2 + 1 ≤ 9223372036854775807 := by omega
  obtain ⟨B, hB⟩ : ∃ B, B = str (bodyD k v) := ⟨_, rfl⟩
  obtain ⟨m, hm⟩ : ∃ m, m = (bodyD k v).length := ⟨_, rfl⟩
  have hBs : B.size = m := by rw [hB, str_size, hm]
  have hm2 : m = n1 + n2 + 3 := by rw [hm, bodyD_length, m1, m2]
  rw [← hB] at hbd
  obtain ⟨D, hD⟩ : ∃ D, D = str (decL (lineN m)) := ⟨_, rfl⟩
  have HL : Hid (str (lineD k v) = D ++ B) := Lib.hid (by rw [hB, hD, Txt.str_app, lineD, hm])
  have hDs : D.size + m ≤ 9223372036854775807 := by
    have h1 := lineN_eq m (by omega)
    have h2 := lineN_ge m
    have h3 := dec_le m 18 (by omega) (by omega)
    rw [hD, str_size]
    omega
  have HC : Hid (∀ w, Need w → Calls Tryd.prog 23 #[.int .i64 (m : Int)] w fun e w' => e = .returned (.string D) ∧ Below w.heap.size w w') := Lib.hid (fun w h => by
    rw [hD]
    exact recCount_any m w (by omega) (by omega) h)
  rw [← ha, ← hb] at HMAY ⊢
  obtain ⟨c0, c1⟩ := cells2 w 31 (.string a) (.string b)
  have HA : Hid (Below w.heap.size w (w.alloc (.cells #[.string a, .string b] 31))) := Lib.hid ((Below.refl _ _).alloc (Nat.le_refl _) _)
  clear m1 m2 hB hm hm2 hkv hk hv hN ha hb hD
  cases hmay : mayD k v with
  | true =>
    rw [hmay] at HMAY
    rw [if_pos rfl, HL.out]
    clear hmay
    go_enter Tryd.func13, Tryd.ntmps13
    go_wp2_with fail
    refine (HMAY.out _ (HT.out.below HA.out)).mono ?_
    rintro e w1 ⟨rfl, hb1⟩
    have d0 := (hb1.cell (p := ⟨w.heap.size, 0, none⟩) (by rw [World.size_alloc]; exact Nat.lt_succ_self _)).trans c0
    have d1 := (hb1.cell (p := ⟨w.heap.size, 1, none⟩) (by rw [World.size_alloc]; exact Nat.lt_succ_self _)).trans c1
    have HB1 := Lib.hid (HA.out.trans (hb1.mono HA.out.size))
    clear hb1 c0 c1
    go_wp2_with fail
    refine (HC.out _ (HT.out.below HB1.out)).mono ?_
    rintro e w2 ⟨rfl, hb2⟩
    have HB2 := Lib.hid (HB1.out.trans (hb2.mono HB1.out.size))
    clear hb2 s1 s2 s3 s4
    go_wp2
    go_ret2
    exact ⟨rfl, HB2.out⟩
  | false =>
    rw [hmay] at HMAY
    rw [if_neg (by simp)]
    clear hmay
    go_enter Tryd.func13, Tryd.ntmps13
    go_wp2_with fail
    refine (HMAY.out _ (HT.out.below HA.out)).mono ?_
    rintro e w1 ⟨rfl, hb1⟩
    have HB1 := Lib.hid (HA.out.trans (hb1.mono HA.out.size))
    clear hb1
    go_wp2
    go_ret2
    exact ⟨rfl, HB1.out⟩
theorem recLine_yes (k v : List UInt8) (w : World) (hm : mayD k v = true) (hkv : k.length + v.length ≤ 1000000000000) (hN : Need w) :
    Calls Tryd.prog 13 #[.agg #[.string (str k), .string (str v)]] w fun e w' => e = .returned (.tuple #[.string (str (lineD k v)), .bool true]) ∧ Below w.heap.size w w' := by
  have := recLine_any k v w (by omega) (by omega) hkv hN
  rwa [hm, if_pos rfl] at this
theorem recLine_no (k v : List UInt8) (w : World) (hm : mayD k v = false) (hkv : k.length + v.length ≤ 1000000000000) (hN : Need w) :
    Calls Tryd.prog 13 #[.agg #[.string (str k), .string (str v)]] w fun e w' => e = .returned (.tuple #[.string (str []), .bool false]) ∧ Below w.heap.size w w' := by
  have := recLine_any k v w (by omega) (by omega) hkv hN
  rwa [hm, if_neg (by simp)] at this
theorem lines_take (rs : List (List UInt8 × List UInt8)) (j : Nat) (h : j < rs.length) : linesD (rs.take (j + 1)) = linesD (rs.take j) ++ lineD (rs.getD j ([], [])).1 (rs.getD j ([], [])).2 := by
  rw [List.take_add_one, List.getElem?_eq_getElem h, List.getD, List.getElem?_eq_getElem h]
  simp only [Option.toList, linesD, List.map_append, List.flatten_append, List.map_cons, List.map_nil, List.flatten_cons, List.flatten_nil, List.append_nil, Option.getD_some]
theorem getD_mem (rs : List (List UInt8 × List UInt8)) (j : Nat) (h : j < rs.length) : rs.getD j ([], []) ∈ rs := by
  rw [List.getD, List.getElem?_eq_getElem h]; exact List.getElem_mem h
theorem take_all (rs : List (List UInt8 × List UInt8)) (j : Nat) (h : j < rs.length) (P : List UInt8 × List UInt8 → Prop) (h1 : ∀ r ∈ rs.take j, P r) (h2 : P (rs.getD j ([], []))) : ∀ r ∈ rs.take (j + 1), P r := by
  intro r hr
  rw [List.take_add_one, List.getElem?_eq_getElem h] at hr
  rcases List.mem_append.1 hr with h3 | h3
  · exact h1 r h3
  · rw [List.getD, List.getElem?_eq_getElem h] at h2
    simp at h3
    rw [h3]; exact h2
theorem lines_len (l : List (List UInt8 × List UInt8)) (h : ∀ r ∈ l, mayD r.1 r.2 = true) : (linesD l).length ≤ 100010 * l.length := by
  induction l with
  | nil => simp [linesD]
  | cons r l ih =>
    have h1 := ih fun x hx => h x (List.mem_cons_of_mem _ hx)
    have hr := h r (by simp)
    obtain ⟨d, _, _, _, _, h7, _, hl⟩ := line_parts hr
    have h5 := (mayD_spec hr).2.2.2.2
    have e : linesD (r :: l) = lineD r.1 r.2 ++ linesD l := by simp [linesD]
    rw [e, List.length_append, List.length_cons]
    omega
theorem nums_app (a b : List UInt8) : nums (a ++ b) = nums a ++ nums b := by simp [nums]
theorem strCells_str (l : List UInt8) : strCells (str l) = (nums l).map (Value.int .u8) := by
  unfold strCells nums
  rw [str_data, List.map_map]
  rfl
/-- what Put hands back: all lines in a row of its own, or nothing -/
def PutsPost (rs : List (List UInt8 × List UInt8)) (w : World) (e : Ending) (w' : World) : Prop :=
  ((∀ r ∈ rs, mayD r.1 r.2 = true) → ∃ p c, e = .returned (.tuple #[.slice p (linesD rs).length c, .bool true]) ∧ (linesD rs).length ≤ c ∧ c ≤ maxLen ∧ BAt w' p (linesD rs).length (linesD rs)) ∧
    ((∃ r ∈ rs, mayD r.1 r.2 = false) → e = .returned (.tuple #[.slice none 0 0, .bool false])) ∧ Below w.heap.size w w'
theorem infoOctR : (Tryd.prog.info? 5).map (fun i => (i.zero, i.size, i.bytes)) = some (some (.int .u8 0), 1, 1) := by kernel_rfl
set_option maxHeartbeats 4000000 in
theorem recPut_any (p : Option Addr) (n c : Nat) (rs : List (List UInt8 × List UInt8)) (w : World) (hm : n ≤ 1000000000) (h : RecsAt w p n rs) (hsz : ∀ r ∈ rs, r.1.length + r.2.length ≤ 1000000000000) (hN : Need w) :
    Calls Tryd.prog 16 #[.slice p n c] w (PutsPost rs w) := by
  have H := Lib.hid h
  have HRL := Lib.hid h.1
  have HSZ := Lib.hid hsz
  have HT := Lib.hid hN
  obtain ⟨i0, hi, hz0, hz1, hz2⟩ := info_parts infoOctR
  have HI := Lib.hid hi
  have HZ0 := Lib.hid hz0
  have HZ1 := Lib.hid hz1
  have HZ2 := Lib.hid hz2
  have HM := Lib.hid hm
  have hmi : (n : Int) ≤ 1000000000 := by omega
  clear h hsz hN hi hz0 hz1 hz2 hm
  go_enter Tryd.func16, Tryd.ntmps16
  go_wp2_with fail
  go_loopw [4, 11] (fun o i wr => ∃ (j : Nat), j ≤ n ∧ i = .int .i64 (j : Int) ∧ Hid (wr.ownsRow w.heap.size 5 1 o (linesD (rs.take j)).length ((nums (linesD (rs.take j))).map (Value.int .u8))) ∧ Hid (∀ r ∈ rs.take j, mayD r.1 r.2 = true) ∧ Hid (Below w.heap.size w wr)) (fun _ i _ => n - (RowKit.intOf i).toNat)
  case atStart => exact ⟨0, Nat.zero_le _, rfl, Lib.hid (World.ownsRow_nil _ _ _ _), Lib.hid (by simp), Lib.hid (Below.refl _ _)⟩
  case round =>
    obtain ⟨j, hj, rfl, hown, hall, hB⟩ := hrel
    by_cases hlt : j < n
    · obtain ⟨b1, o1, rfl, hb1, hc1⟩ := (H.out.below hB.out).2 (by omega)
      obtain ⟨x0, x1⟩ := hc1 j hlt
      obtain ⟨u, hu⟩ : ∃ u, rs.getD j ([], []) = u := ⟨_, rfl⟩
      rw [hu, Nat.mul_comm] at x0 x1
      have HU := Lib.hid hu
      have HMEM : Hid (u ∈ rs) := Lib.hid (by rw [← hu]; exact getD_mem rs j (by rw [HRL.out]; exact hlt))
      have hltz : (j : Int) < (n : Int) := by omega
      have HKV := Lib.hid (HSZ.out u HMEM.out)
      have HBA : Hid (Below w.heap.size w (wr.alloc (.cells #[.string (str u.1), .string (str u.2)] 31))) := Lib.hid (hB.out.alloc hB.out.size _)
      have HJ := Lib.hid hlt
      have HBW : Hid (Below wr.heap.size wr (wr.alloc (.cells #[.string (str u.1), .string (str u.2)] 31))) := Lib.hid ((Below.refl _ _).alloc (Nat.le_refl _) _)
      clear hc1 hu hb1
      cases hmay : mayD u.1 u.2 with
      | false =>
        have HLN := Lib.hid (fun w1 h1 => recLine_no u.1 u.2 w1 hmay HKV.out h1)
        have HNO : Hid (∃ r ∈ rs, mayD r.1 r.2 = false) := Lib.hid ⟨u, HMEM.out, hmay⟩
        clear hmay
        go_wp2_with fail
        refine (HLN.out _ (HT.out.below HBA.out)).mono ?_
        rintro e w1 ⟨rfl, hb2⟩
        have HB2 := Lib.hid (HBA.out.trans (hb2.mono HBA.out.size))
        clear hb2
        go_wp2
        go_ret2
        refine ⟨fun h => ?_, fun _ => rfl, HB2.out⟩
        obtain ⟨r, hr, hr2⟩ := HNO.out
        rw [h r hr] at hr2
        cases hr2
      | true =>
        have HLN := Lib.hid (fun w1 h1 => recLine_yes u.1 u.2 w1 hmay HKV.out h1)
        obtain ⟨L, hL⟩ : ∃ L, str (lineD u.1 u.2) = L := ⟨_, rfl⟩
        have HL := Lib.hid hL
        have HLS : Hid (L.size = (lineD u.1 u.2).length) := Lib.hid (by rw [← hL, str_size])
        have HAL : Hid (∀ r ∈ rs.take (j + 1), mayD r.1 r.2 = true) := Lib.hid (take_all rs j (by rw [HRL.out]; exact hlt) _ hall.out (by rw [HU.out]; exact hmay))
        have HNX : Hid (linesD (rs.take (j + 1)) = linesD (rs.take j) ++ lineD u.1 u.2) := Lib.hid (by rw [lines_take rs j (by rw [HRL.out]; exact hlt), HU.out])
        have HBND : Hid ((linesD (rs.take j)).length + L.size ≤ 140737488351232) := Lib.hid (by
          have h1 := lines_len _ HAL.out
          rw [HNX.out, List.length_append, List.length_take] at h1
          have := HM.out
          have := HLS.out
          have : min (j + 1) rs.length ≤ 1000000000 := by omega
          omega)
        clear hmay
        go_wp2_with fail
        refine (HLN.out _ (HT.out.below HBA.out)).mono ?_
        rw [hL]
        rintro e w1 ⟨rfl, hb2⟩
        have HB2 := Lib.hid (HBA.out.trans (hb2.mono HBA.out.size))
        have HOW1 := Lib.hid (row_below hown.out (HBW.out.trans (hb2.mono HBW.out.size)))
        clear hb2 hL
        go_wp2_with (at_builtin; refine wpList_append_own_string _ rfl _ _ 22 9 rfl w.heap.size 5 i0 Tryd.underlying22 Tryd.underlying9 HI.out HZ0.out HZ1.out HZ2.out _ _ _ rfl HOW1.out L rfl (by have := HBND.out; unfold maxLen; omega) (by have := HBND.out; omega) HB2.out.size ?_)
        intro v' w2 hown' hgrow _
        have HOWN : Hid (w2.ownsRow w.heap.size 5 1 v' (linesD (rs.take (j + 1))).length ((nums (linesD (rs.take (j + 1)))).map (Value.int .u8))) := Lib.hid (by
          rw [HNX.out, List.length_append, ← HLS.out, nums_app, List.map_append, ← strCells_str (lineD u.1 u.2), HL.out]
          exact hown')
        have HBW2 : Hid (Below w.heap.size w w2) := Lib.hid (HB2.out.grown hgrow HB2.out.size (fun b hb => by
          rcases HOW1.out.2 with ⟨rfl, _⟩ | ⟨g, cap, cur, rfl, hb2, _⟩
          · cases hb
          · cases hb; exact hb2))
        clear hown' hgrow
        go_wp2_with fail
        go_roundw
        case rel => exact ⟨j + 1, by omega, by go_num, HOWN, HAL, HBW2⟩
        case measure => simp [RowKit.intOf]; omega
    · have hks : ¬ ((j : Int) < (n : Int)) := by omega
      have HTK : Hid (rs.take j = rs) := Lib.hid (List.take_of_length_le (by rw [HRL.out]; omega))
      have hown2 := hown.out
      have hall2 := hall.out
      rw [HTK.out] at hown2 hall2
      obtain ⟨q, cq, rfl, h1, h2, h3, h4⟩ := bat_of_own hown2 (nums_bd _)
      rw [bytesOf_nums] at h3
      have H3 := Lib.hid (And.intro h1 (And.intro h2 h3))
      have HAL := Lib.hid hall2
      clear h1 h2 h3 h4 hown2 hall2
      go_wp2
      go_ret2
      refine ⟨fun _ => ⟨q, cq, rfl, H3.out.1, H3.out.2.1, H3.out.2.2⟩, fun hx => ?_, hB.out⟩
      obtain ⟨r, hr, hr2⟩ := hx
      rw [HAL.out r hr] at hr2
      cases hr2
theorem cutD_le {l t : List UInt8} {m : Nat} (h : cutD l = some (t, m)) : m ≤ l.length ∧ 0 < m ∧ t.length ≤ l.length := by
  unfold cutD at h
  split at h
  · cases h
  · split at h
    · cases h
    · split at h
      · cases h
      · cases h
        refine ⟨by omega, by omega, ?_⟩
        rw [List.length_take, List.length_drop]
        omega
theorem recCutP_any (p : Option Addr) (n c : Nat) (bs : List UInt8) (w : World) (h0 : 0 < n) (hn : bs.length = n) (hc : n ≤ c) (hm : n ≤ 1000000000000) (h : BAt w p n bs) (hN : Need w) :
    Calls Tryd.prog 18 #[.slice p n c] w fun e w' => e = .returned (cutR (cutD bs)) ∧ Below w.heap.size w w' := by
  obtain ⟨b, o, rfl, hcell⟩ := h h0
  exact recCut_any b o n c bs w hn hc hm h hN
set_option maxHeartbeats 8000000 in
theorem recParse_any (p0 : Option Addr) (n0 c0 : Nat) (bs : List UInt8) (w : World) (hn : bs.length = n0) (hc : n0 ≤ c0) (hm : n0 ≤ 1000000000000) (h : BAt w p0 n0 bs) (hN : Need w) :
    Calls Tryd.prog 10 #[.slice p0 n0 c0] w (RecsPost 5 9 bs w) := by
  have H := Lib.hid h
  have HT := Lib.hid hN
  have HN := Lib.hid hn
  have HN0 := Lib.hid hm
  have HC0 := Lib.hid hc
  obtain ⟨i0, hi, hz0, hz1, hz2⟩ := info_parts infoRec
  have HI := Lib.hid hi
  have HZ0 := Lib.hid hz0
  have HZ1 := Lib.hid hz1
  have HZ2 := Lib.hid hz2
  clear h hn hi hz0 hz1 hz2 hN hm hc
  go_enter Tryd.func10, Tryd.ntmps10
  go_wp2_with fail
  go_loopw [0, 4] (fun b o wr => ∃ (l : List UInt8) (p : Option Addr) (n c : Nat) (acc : List (List UInt8 × List UInt8)), b = .slice p n c ∧ n ≤ c ∧ Hid (l.length = n) ∧ Hid (BAt w p n l) ∧ Hid (wr.ownsRow w.heap.size 31 2 o acc.length (flatR acc)) ∧ Hid (recsFrom 5 9 l acc = recsD 5 9 bs) ∧ Hid (acc.length + n ≤ n0) ∧ Hid (Below w.heap.size w wr)) (fun b _ _ => match b with | .slice _ n _ => n | _ => 0)
  case atStart => exact ⟨bs, p0, n0, c0, [], rfl, HC0.out, HN, H, Lib.hid (World.ownsRow_nil _ _ _ _), Lib.hid rfl, Lib.hid (by simp), Lib.hid (Below.refl _ _)⟩
  case round =>
    obtain ⟨l, p, n, c, acc, rfl, hcc, hln, hbt, hown, hr, hlen, hB⟩ := hrel
    by_cases hl0 : n = 0
    · subst hl0
      have hl : l = [] := List.length_eq_zero_iff.1 hln.out
      have hG : Hid (recsD 5 9 bs = (acc, 0)) := Lib.hid (by rw [← hr.out, hl, recsFrom_nil])
      obtain ⟨q, cq, rfl, h1, h2, h3⟩ := recs_own hown.out
      have H3 := Lib.hid (And.intro h1 (And.intro h2 h3))
      clear hl h1 h2 h3
      go_wp2
      go_ret2
      refine ⟨q, cq, by rw [hG.out]; rfl, ?_, H3.out.2.1, ?_, hB.out⟩
      · rw [hG.out]; exact H3.out.1
      · rw [hG.out]; exact H3.out.2.2
    · have hpos : (0 : Int) < (n : Int) := by omega
      have HPOS : Hid (0 < n) := Lib.hid (by omega)
      have HNE : Hid (l ≠ []) := Lib.hid (fun e => by have := hln.out; rw [e] at this; exact hl0 (by simpa using this.symm))
      have hsm : (n : Int) ≤ 1000000000000 := by have := hlen.out; have := HN0.out; omega
      have HG : Hid (∀ er, recStep 5 9 l = .error er → recsD 5 9 bs = ([], er)) := Lib.hid (fun er he => by rw [← hr.out, recsFrom_step 5 9 l HNE.out, he])
      have HCUT := Lib.hid (fun w1 h1 h2 => recCutP_any p n c l w1 HPOS.out hln.out hcc (by omega) h1 h2)
      have HRS := Lib.hid (recStep_cutD 5 9 l)
      clear hl0
      cases hcut : cutD l with
      | none =>
        rw [hcut] at HCUT HRS
        have E : Hid (recsD 5 9 bs = ([], 5)) := Lib.hid (HG.out 5 HRS.out)
        clear hcut
        go_wp2_with fail
        refine (HCUT.out _ (hbt.out.below hB.out) (HT.out.below hB.out)).mono ?_
        unfold cutR
        rintro e w1 ⟨rfl, hb1⟩
        have HB1 := Lib.hid (hB.out.trans (hb1.mono hB.out.size))
        clear hb1
        go_wp2
        go_ret2
        exact recs_err 5 9 bs w _ 5 E.out HB1.out
      | some x =>
        obtain ⟨t, m⟩ := x
        obtain ⟨hml, hm0, htl⟩ := cutD_le hcut
        rw [hcut] at HCUT HRS
        have HML : Hid (m ≤ n ∧ 0 < m) := Lib.hid (by have := hln.out; omega)
        have hmn : (m : Int) ≤ (n : Int) := by have := HML.out; omega
        have hmpos : (0 : Int) < (m : Int) := by omega
        have htl2 : t.length ≤ 1000000000000 := by have := hln.out; omega
        have HTL := Lib.hid htl2
        have HQ := Lib.hid (fun w1 => cutQ_any t w1 HTL.out)
        have HRT := Lib.hid (fun w1 h1 => recRight_any t w1 HTL.out h1)
        clear hcut hml hm0 htl htl2
        by_cases hq : Lib.indexByte t 61 < 1
        · have E : Hid (recsD 5 9 bs = ([], 5)) := Lib.hid (HG.out 5 (by
            rw [HRS.out]
            simp only
            rw [if_pos hq]))
          by_cases hq0 : 0 ≤ Lib.indexByte t 61
          · have hz : Lib.indexByte t 61 = 0 := by omega
            have HQ2 : Hid (∀ w, Calls Tryd.prog 19 #[.string (str t), .string ⟨#[61]⟩] w fun e w' => e = .returned (.tuple #[.string ⟨#[]⟩, .string (str (t.drop 1)), .bool true]) ∧ ∃ n, w' = w.drewN n) := Lib.hid (fun w1 => by
              have := HQ.out w1
              unfold cutQ at this
              rw [if_pos hq0, hz] at this
              exact this)
            clear hq hq0 hz
            go_wp2_with fail
            refine (HCUT.out _ (hbt.out.below hB.out) (HT.out.below hB.out)).mono ?_
            unfold cutR
            rintro e w1 ⟨rfl, hb1⟩
            have HB1 := Lib.hid (hB.out.trans (hb1.mono hB.out.size))
            clear hb1
            go_wp2_with fail
            refine (HQ2.out _).mono ?_
            rintro e w2 ⟨rfl, nd, rfl⟩
            have HB2 := Lib.hid (below_drewN HB1.out nd)
            go_wp2
            go_ret2
            exact recs_err 5 9 bs w _ 5 E.out HB2.out
          · have HQ2 : Hid (∀ w, Calls Tryd.prog 19 #[.string (str t), .string ⟨#[61]⟩] w fun e w' => e = .returned (.tuple #[.string (str t), .string (str []), .bool false]) ∧ ∃ n, w' = w.drewN n) := Lib.hid (fun w1 => by
              have := HQ.out w1
              unfold cutQ at this
              rw [if_neg hq0] at this
              exact this)
            clear hq hq0
            go_wp2_with fail
            refine (HCUT.out _ (hbt.out.below hB.out) (HT.out.below hB.out)).mono ?_
            unfold cutR
            rintro e w1 ⟨rfl, hb1⟩
            have HB1 := Lib.hid (hB.out.trans (hb1.mono hB.out.size))
            clear hb1
            go_wp2_with fail
            refine (HQ2.out _).mono ?_
            rintro e w2 ⟨rfl, nd, rfl⟩
            have HB2 := Lib.hid (below_drewN HB1.out nd)
            go_wp2
            go_ret2
            exact recs_err 5 9 bs w _ 5 E.out HB2.out
        · obtain ⟨k, hk⟩ : ∃ k : Nat, Lib.indexByte t 61 = k := ⟨(Lib.indexByte t 61).toNat, by omega⟩
          obtain ⟨kk, hkk⟩ : ∃ kk, t.take k = kk := ⟨_, rfl⟩
          obtain ⟨vv, hvv⟩ : ∃ vv, t.drop (k + 1) = vv := ⟨_, rfl⟩
          have hkl := (List.getElem?_eq_some_iff.1 (Lib.indexByte_some hk).1).1
          have hkne : (str kk).toList.isEmpty = false := by
            rw [str_empty, decide_eq_false_iff_not, ← hkk]
            intro e
            have := congrArg List.length e
            rw [List.length_take, List.length_nil] at this
            omega
          have HQ2 : Hid (∀ w, Calls Tryd.prog 19 #[.string (str t), .string ⟨#[61]⟩] w fun e w' => e = .returned (.tuple #[.string (str kk), .string (str vv), .bool true]) ∧ ∃ n, w' = w.drewN n) := Lib.hid (fun w1 => by
            have := HQ.out w1
            unfold cutQ at this
            rw [if_pos (by omega), hk, Int.toNat_natCast] at this
            simp only [hkk, hvv] at this
            exact this)
          cases ht : textD t with
          | false =>
            rw [ht] at HRT
            have E : Hid (recsD 5 9 bs = ([], 9)) := Lib.hid (HG.out 9 (by
              rw [HRS.out]
              simp only
              rw [if_neg hq, if_pos ht]))
            clear hq hk hkk hvv ht hkl
            go_wp2_with fail
            refine (HCUT.out _ (hbt.out.below hB.out) (HT.out.below hB.out)).mono ?_
            unfold cutR
            rintro e w1 ⟨rfl, hb1⟩
            have HB1 := Lib.hid (hB.out.trans (hb1.mono hB.out.size))
            clear hb1
            go_wp2_with fail
            refine (HQ2.out _).mono ?_
            rintro e w2 ⟨rfl, nd, rfl⟩
            have HB2 := Lib.hid (below_drewN HB1.out nd)
            go_wp2_with fail
            refine (HRT.out _ (HT.out.below HB2.out).tabs).mono ?_
            rintro e w3 ⟨rfl, hb3⟩
            have HB3 := Lib.hid (HB2.out.trans (hb3.mono HB2.out.size))
            clear hb3
            go_wp2
            go_ret2
            exact recs_err 5 9 bs w _ 9 E.out HB3.out
          | true =>
            rw [ht] at HRT
            have HST : Hid (recsFrom 5 9 (l.drop m) (acc ++ [(kk, vv)]) = recsD 5 9 bs) := Lib.hid (by
              rw [← hr.out, recsFrom_step 5 9 l HNE.out, HRS.out]
              simp only
              rw [if_neg hq, if_neg (by rw [ht]; simp), hk, Int.toNat_natCast]
              simp only [hkk, hvv])
            have HBT2 : Hid (BAt w (if c = m then p else p.map (·.add m)) (n - m) (l.drop m)) := Lib.hid (hbt.out.drop HML.out.1 hcc hln.out)
            have HLD : Hid ((l.drop m).length = n - m) := Lib.hid (by rw [List.length_drop, hln.out])
            clear hq hk hkk hvv ht hkl
            go_wp2_with fail
            refine (HCUT.out _ (hbt.out.below hB.out) (HT.out.below hB.out)).mono ?_
            unfold cutR
            rintro e w1 ⟨rfl, hb1⟩
            have HB1 := Lib.hid (hB.out.trans (hb1.mono hB.out.size))
            have HO1 := Lib.hid (row_below hown.out hb1)
            clear hb1
            go_wp2_with fail
            refine (HQ2.out _).mono ?_
            rintro e w2 ⟨rfl, nd, rfl⟩
            have HB2 := Lib.hid (below_drewN HB1.out nd)
            have HO2 := Lib.hid (row_below HO1.out (below_drewN (Below.refl w1.heap.size w1) nd))
            go_wp2_with fail
            refine (HRT.out _ (HT.out.below HB2.out).tabs).mono ?_
            rintro e w3 ⟨rfl, hb3⟩
            have HB3 := Lib.hid (HB2.out.trans (hb3.mono HB2.out.size))
            have HO3 := Lib.hid (row_below HO2.out hb3)
            clear hb3
            have HOWN : Hid (World.ownsRow (w3.alloc (.cells #[.string (str kk), .string (str vv)] 31)) w.heap.size 31 2 u4 acc.length (flatR acc)) := Lib.hid (HO3.out.alloc _)
            have HBD : Hid (Below w.heap.size w (w3.alloc (.cells #[.string (str kk), .string (str vv)] 31))) := Lib.hid (HB3.out.alloc HB3.out.size _)
            have HCL : Hid (∀ j u, ([Value.string (str kk), .string (str vv)] : List Value)[j]? = some u → (w3.alloc (.cells #[.string (str kk), .string (str vv)] 31)).cell? ((⟨w3.heap.size, 0, none⟩ : Addr).add j) = some u) := Lib.hid (fun j u hj => by
              obtain ⟨g0, g1⟩ := cells2 w3 31 (.string (str kk)) (.string (str vv))
              match j, hj with
              | 0, hj => cases hj; exact g0
              | 1, hj => cases hj; exact g1
              | j + 2, hj => simp at hj)
            have HAL : Hid (acc.length + 1 ≤ 1000000000001) := Lib.hid (by have := hlen.out; have := HN0.out; omega)
            have HSZ1 : Hid (w.heap.size ≤ (w3.alloc (.cells #[.string (str kk), .string (str vv)] 31)).heap.size) := Lib.hid HBD.out.size
            go_wp2_with (at_builtin; refine wpList_append_own _ rfl _ _ 24 rfl w.heap.size 31 i0 (.agg #[.string ⟨#[]⟩, .string ⟨#[]⟩]) 2 32 Tryd.underlying24 HI.out HZ0.out HZ1.out HZ2.out rfl (by decide) _ acc.length (flatR acc) rfl HOWN.out ⟨w3.heap.size, 0, none⟩ 1 1 [.string (str kk), .string (str vv)] rfl rfl HCL.out (by
              intro u hu
              rcases List.mem_cons.1 hu with rfl | hu
              · rfl
              · rcases List.mem_cons.1 hu with rfl | hu
                · rfl
                · cases hu) (by have := HAL.out; unfold maxLen; omega) (by have := HAL.out; omega) HSZ1.out ?_)
            intro v' w4 hown' hgrow _
            have HOW1 : Hid (w4.ownsRow w.heap.size 31 2 v' (acc ++ [(kk, vv)]).length (flatR (acc ++ [(kk, vv)]))) := Lib.hid (by
              rw [flatR_snoc, List.length_append]; exact hown')
            have HBW : Hid (Below w.heap.size w w4) := Lib.hid (HBD.out.grown hgrow HBD.out.size (fun b hb => by
              rcases HOWN.out.2 with ⟨rfl, _⟩ | ⟨g, cap, cur, rfl, hb2, _⟩
              · cases hb
              · cases hb; exact hb2))
            clear hown' hgrow
            go_wp2_with fail
            go_roundw
            case rel => exact ⟨l.drop m, _, n - m, c - m, acc ++ [(kk, vv)], rfl, by omega, HLD, HBT2, HOW1, HST, Lib.hid (by have h2 := hlen.out; have := HML.out; rw [List.length_append]; simp only [List.length_cons, List.length_nil]; omega), HBW⟩
            case measure => have := HML.out; simp; omega
end Go.Proofs.YtodlkjlcihcciaaDoor.Rec
