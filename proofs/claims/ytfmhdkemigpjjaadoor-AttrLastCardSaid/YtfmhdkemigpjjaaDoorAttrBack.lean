/- slices.Backward over records: the iterator by its contract; the last record that has a key. -/
import Derived.RangeFuncNested
import Derived.RangeFuncBound
import Derived.RangeFuncCalls
import Derived.RangeFuncLeaves
import Derived.Shelf.Abstract
import Derived.Shelf.RegionOpen
import Derived.WalkKit
import Derived.OwnWalkIn
import Derived.TacticsInMore
import Derived.LoopNIn
import Derived.LoopIn
import Derived.Test.YtfmhdkemigpjjaaDoorAttrPlain
import Derived.Test.YtfmhdkemigpjjaaDoorRecRow
import Derived.Test.YtfmhdkemigpjjaaDoorBlk
namespace Go.Proofs.YtfmhdkemigpjjaaDoor.Attr
open Go.ChangeShapes Go.WideShapes Go.ChangeAt Go.RowKit Go.Shelf Go.Proofs.YtfmhdkemigpjjaaDoor.Base Go.Proofs.YtfmhdkemigpjjaaDoor.Byt Go.Proofs.YtfmhdkemigpjjaaDoor.Txt Go.Proofs.YtfmhdkemigpjjaaDoor.Rec Go.Proofs.YtfmhdkemigpjjaaDoor.Bk Go.Lib
set_option linter.unusedVariables false
set_option maxRecDepth 100000
attribute [local go_sem] Oper.semAt_some

abbrev RecI := Nat × (List UInt8 × List UInt8)
def encI (x : RecI) : Array Value := #[.int .i64 (x.1 : Int), .agg #[.string (str x.2.1), .string (str x.2.2)]]
/-- what has come when m rounds are over -/
def backTo (rs : RecL) (m : Nat) : List RecI := (List.range m).map fun t => (rs.length - 1 - t, rs.getD (rs.length - 1 - t) ([], []))
theorem backTo_succ (rs : RecL) (m : Nat) : backTo rs (m + 1) = backTo rs m ++ [(rs.length - 1 - m, rs.getD (rs.length - 1 - m) ([], []))] := by simp [backTo, List.range_succ]
theorem backTo_length (rs : RecL) (m : Nat) : (backTo rs m).length = m := by simp [backTo]
theorem backTo_all (rs : RecL) : (backTo rs rs.length).map (·.2) = rs.reverse := by
  apply List.ext_getElem
  · simp [backTo]
  · intro i h1 h2
    have hi : i < rs.length := by simpa using h2
    simp [backTo, List.getD, show rs.length - 1 - i < rs.length by omega]
theorem backTo_pre (rs : RecL) (m : Nat) (hm : m ≤ rs.length) : backTo rs m <+: backTo rs rs.length := by
  refine ⟨(backTo rs rs.length).drop m, ?_⟩
  have : backTo rs m = (backTo rs rs.length).take m := by
    simp [backTo, ← List.map_take, List.take_range, Nat.min_eq_left hm]
  rw [this, List.take_append_drop]
set_option maxHeartbeats 1000000 in
theorem back_in (F : Fence) (n : Nat) (hF : F = Fence.wide) (hn : 1 ≤ n) (l Bs n₀ : Nat) (p : Option Addr) (c : Nat) (rs : RecL) (hreach : rs.length ≤ 4611686018427387904) (J Jx : List RecI → World → Prop)
    (hY : ∀ pre x W, J pre W → pre.length < rs.length → YieldAt F (n - 1) Tryd.prog l (encI x) W fun e W' =>
      (e = .returned (.bool true) ∧ J (pre ++ [x]) W' ∧ Below n₀ W W') ∨ (e = .returned (.bool false) ∧ Jx (pre ++ [x]) W'))
    (W : World) (hBn : Bs < n₀) (hBs : W.cell? ⟨Bs, 0, none⟩ = some (.slice p rs.length c))
    (hR : 0 < rs.length → ∃ b o, p = some ⟨b, o, none⟩ ∧ b < n₀ ∧ ∀ i, i < rs.length → W.cell? ⟨b, o + 2 * i, none⟩ = some (.string (str (rs.getD i ([], [])).1)) ∧ W.cell? ⟨b, o + 2 * i + 1, none⟩ = some (.string (str (rs.getD i ([], [])).2))) (h0 : J [] W) :
    CallsIn F n Tryd.prog 31 #[.func (.yield l) #[] #[], .pointer (some ⟨Bs, 0, none⟩)] W fun e W' => (∃ v, e = .returned v) ∧
      ((∃ ys, ys = backTo rs rs.length ∧ J ys W') ∨ (∃ pre, pre <+: backTo rs rs.length ∧ Jx pre W')) := by
  subst hF
  obtain ⟨N, hN⟩ : ∃ N, rs.length = N := ⟨_, rfl⟩
  rw [hN] at hBs hreach
  refine callsIn_of_wp Tryd.func31 rfl trivial ?_ rfl
  simp only [Tryd.ntmps31, List.size_toArray, List.length_cons, List.length_nil, Nat.reduceAdd, Nat.reduceSub, Array.replicate_succ, Array.replicate_zero, List.push_toArray, List.append_toArray, List.nil_append, List.cons_append]
  gi_wp2
  gi_loopw [3] (fun i wr => ∃ k : Nat, k ≤ N ∧ i = .int .i64 ((k : Int) - 1) ∧ J (backTo rs (N - k)) wr ∧ Below n₀ W wr)
    (fun i _ => (intOf i + 1).toNat)
  case atStart => exact ⟨N, Nat.le_refl _, rfl, by rw [Nat.sub_self]; exact h0, Below.refl _ _⟩
  case round =>
    obtain ⟨k, hk, rfl, hJs, hnx⟩ := hrel
    cases k with
    | zero =>
      have hJ' : J (backTo rs rs.length) wr := by rw [hN]; exact hJs
      clear hJs hY
      gi_wp2
      go_end0
      exact ⟨⟨_, rfl⟩, .inl ⟨_, rfl, hJ'⟩⟩
    | succ j =>
      rw [show (((j + 1 : Nat) : Int) - 1) = (j : Int) by omega]
      obtain ⟨b, o, rfl, hb, hc⟩ := hR (by omega)
      obtain ⟨c0, c1⟩ := hc j (by omega)
      have hcb := (hnx.cell (p := ⟨Bs, 0, none⟩) hBn).trans hBs
      have d0 := (hnx.cell (p := ⟨b, o + 2 * j, none⟩) hb).trans c0
      have d1 := (hnx.cell (p := ⟨b, o + 2 * j + 1, none⟩) hb).trans c1
      rw [Nat.mul_comm] at d0 d1
      obtain ⟨r, hr⟩ : ∃ r, rs.getD j ([], []) = r := ⟨_, rfl⟩
      rw [hr] at d0 d1
      have hs : backTo rs (N - j) = backTo rs (N - (j + 1)) ++ [(j, r)] := by
        have : N - j = N - (j + 1) + 1 := by omega
        rw [this, backTo_succ, show rs.length - 1 - (N - (j + 1)) = j by omega, hr]
      obtain ⟨fn, tmps, assign, body, hy, hR'⟩ := hY (backTo rs (N - (j + 1))) (j, r) wr hJs (by rw [backTo_length]; omega)
      simp only [encI] at hy
      have HS := Lib.hid hs
      have hp2 := backTo_pre rs (N - j) (by omega)
      have HP := Lib.hid hp2
      rw [← hs] at hR'
      clear hs hY hR hJs c0 c1 hc hp2 hBs hr
      gi_wp2
      refine hR'.mono ?_
      rintro e W3 (⟨rfl, hJ3, hk3⟩ | ⟨rfl, hJx3⟩)
      · gi_wp2
        go_roundw
        case rel => exact ⟨j, by omega, rfl, hJ3, hnx.trans hk3⟩
        case measure => simp [intOf]
      · gi_wp2
        refine bodyPost_ret (results_none rfl _ _ _) rfl ?_
        exact ⟨⟨_, rfl⟩, .inr ⟨_, HP.out, hJx3⟩⟩
theorem back_stops (n : Nat) (hn : 1 ≤ n) (Bs : Nat) (p : Option Addr) (c : Nat) (rs : RecL) (hreach : rs.length ≤ 4611686018427387904) (w : World) (hBn : Bs < w.heap.size) (hc : w.cell? ⟨Bs, 0, none⟩ = some (.slice p rs.length c)) (hR : RecsAt w p rs.length rs) :
    SeqStopsK Fence.wide n Tryd.prog 31 #[.pointer (some ⟨Bs, 0, none⟩)] encI (Below w.heap.size) (fun ys => ys = backTo rs rs.length) (fun pre => pre <+: backTo rs rs.length) rs.length w := fun l J Jx W hW _ _ hY h0 =>
  back_in Fence.wide n rfl hn l Bs w.heap.size p c rs hreach J Jx hY W hBn ((hW.cell (p := ⟨Bs, 0, none⟩) hBn).trans hc)
    (fun h0 => by
      obtain ⟨b, o, hp, hb, hc⟩ := hR.2 h0
      exact ⟨b, o, hp, hb, fun i hi => ⟨(hW.cell (p := ⟨b, o + 2 * i, none⟩) hb).trans (hc i hi).1, (hW.cell (p := ⟨b, o + 2 * i + 1, none⟩) hb).trans (hc i hi).2⟩⟩) h0
theorem backward_any (p : Option Addr) (n c : Nat) (w : World) :
    Calls Tryd.prog 26 #[.slice p n c] w fun e w' => e = .returned (.func (.func 31) #[] #[.pointer (some ⟨w.heap.size, 0, none⟩)]) ∧ w' = w.alloc (.cells #[.slice p n c] 27) := by
  go_enter Tryd.func26, Tryd.ntmps26
  go_wp2
  go_ret
  exact ⟨rfl, rfl⟩
end Go.Proofs.YtfmhdkemigpjjaaDoor.Attr
