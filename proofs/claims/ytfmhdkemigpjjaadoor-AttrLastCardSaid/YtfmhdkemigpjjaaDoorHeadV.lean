/- A head in plain words, as it lies in memory, and when two heads are the same. -/
import Derived.Test.YtfmhdkemigpjjaaDoorTxt
import Derived.Laws.StructEq
namespace Go.Proofs.YtfmhdkemigpjjaaDoor.Hp
structure HeadV where
  name : List UInt8
  link : List UInt8
  kind : UInt8
  mode : Int
  uid : Int
  gid : Int
  time : Int
  size : Int
  gnu : Bool
def zeroH : HeadV := ⟨[], [], 0, 0, 0, 0, 0, 0, false⟩
def numH (h : HeadV) : Nat → Int
  | 1 => h.mode | 2 => h.uid | 3 => h.gid | 4 => h.size | 5 => h.time | _ => 0
deriving instance DecidableEq for HeadV
end Go.Proofs.YtfmhdkemigpjjaaDoor.Hp
namespace Go.Proofs.YtfmhdkemigpjjaaDoor.Head
open Go.ChangeShapes Go.WideShapes Go.ChangeAt Go.RowKit Go.Proofs.YtfmhdkemigpjjaaDoor.Base Go.Proofs.YtfmhdkemigpjjaaDoor.Byt Go.Proofs.YtfmhdkemigpjjaaDoor.Txt Go.Proofs.YtfmhdkemigpjjaaDoor.Hp Go.Lib
set_option linter.unusedVariables false
set_option maxRecDepth 100000

/-- a block whose cells are known -/
theorem headCell {w : World} {g : Nat} {cs : Array Value} {e : TypeId} (h : w.heap[g]? = some (.cells cs e (0, 0))) (i : Nat) : w.cell? ⟨g, i, none⟩ = cs[i]? := by
  simp [World.cell?, h]
/-- a head as it lies in memory -/
def headC (h : HeadV) : Array Value := #[.string (str h.name), .string (str h.link), .int .u8 (h.kind.toNat : Int), .int .i64 h.mode, .int .i64 h.uid, .int .i64 h.gid, .int .i64 h.time, .int .i64 h.size, .bool h.gnu]
theorem zeroC : headC zeroH = #[.string ⟨#[]⟩, .string ⟨#[]⟩, .int .u8 0, .int .i64 0, .int .i64 0, .int .i64 0, .int .i64 0, .int .i64 0, .bool false] := rfl
/-- a head and an error, as an answer -/
def headA (x : HeadV × Int) : Value := .tuple #[.agg (headC x.1), .int .i64 x.2]
theorem load_head (w : World) (g : Nat) (a b : ByteArray) (k m u i t z : Int) (n : Bool) (h : w.heap[g]? = some (.cells #[.string a, .string b, .int .u8 k, .int .i64 m, .int .i64 u, .int .i64 i, .int .i64 t, .int .i64 z, .bool n] 25 (0, 0))) :
    (loadVar 25 ⟨g, 0, none⟩).run Tryd.prog w = .ok (.agg #[.string a, .string b, .int .u8 k, .int .i64 m, .int .i64 u, .int .i64 i, .int .i64 t, .int .i64 z, .bool n]) w := by
  have c0 := headCell h 0
  have c1 := headCell h 1
  have c2 := headCell h 2
  have c3 := headCell h 3
  have c4 := headCell h 4
  have c5 := headCell h 5
  have c6 := headCell h 6
  have c7 := headCell h 7
  have c8 := headCell h 8
  clear h
  go_simp
theorem eqH_deep (a b : HeadV) (d : Nat) (w : World) : (Op.equalIn (d + 1 + 1 + 1) 25 (.agg (headC a)) (.agg (headC b))).run Tryd.prog w = .ok (decide (a = b)) w := by
  have e : decide (a = b) = (decide (a.name = b.name) && decide (a.link = b.link) && decide (a.kind = b.kind) && decide (a.mode = b.mode) && decide (a.uid = b.uid) && decide (a.gid = b.gid) && decide (a.time = b.time) && decide (a.size = b.size) && decide (a.gnu = b.gnu)) := by
    rw [Bool.eq_iff_iff]
    simp only [decide_eq_true_eq, Bool.and_eq_true]
    constructor
    · rintro rfl; simp
    · rintro ⟨⟨⟨⟨⟨⟨⟨⟨h1, h2⟩, h3⟩, h4⟩, h5⟩, h6⟩, h7⟩, h8⟩, h9⟩
      cases a; cases b; simp_all
  have s1 : ∀ x y : List UInt8, ((str x).toList == (str y).toList) = decide (x = y) := fun x y => by
    rw [str_toList, str_toList]
    by_cases h : x = y <;> simp [h]
  have s2 : (((a.kind.toNat : Int)) == (b.kind.toNat : Int)) = decide (a.kind = b.kind) := by
    by_cases h : a.kind = b.kind
    · simp [h]
    · have : ¬ a.kind.toNat = b.kind.toNat := fun hh => h (UInt8.toNat.inj hh)
      simp only [h, decide_false, beq_eq_false_iff_ne, ne_eq]
      omega
  have hS : Tryd.prog.underlying 25 = some (.struct (Tryd.prog.fieldsOf 25)) := by kernel_rfl
  have hM : Tryd.prog.underlying 23 = some (.struct (Tryd.prog.fieldsOf 23)) := by kernel_rfl
  have pS : Tryd.prog.stoodInHeld 25 = false := by kernel_rfl
  have pM : Tryd.prog.stoodInHeld 23 = false := by kernel_rfl
  have qM := fun (xs ys : Array Value) => run_equalIn_agg (P := Tryd.prog) w (d + 1) 23 xs ys hM pM
  rw [run_equalIn_agg w (d + 1 + 1) _ _ _ hS pS]
  clear hS hM pS pM
  simp only [Program.fieldsOf, Tryd.underlying25, Tryd.underlying23] at qM ⊢
  rw [e, ← s2, ← s1, ← s1]
  clear e s1 s2
  unfold headC
  go_simp
  by_cases h1 : (str a.name).toList = (str b.name).toList
  · by_cases h2 : (str a.link).toList = (str b.link).toList
    · by_cases h3 : (a.kind.toNat : Int) = (b.kind.toNat : Int)
      · by_cases h4 : a.mode = b.mode <;> by_cases h5 : a.uid = b.uid <;> by_cases h6 : a.gid = b.gid <;> by_cases h7 : a.time = b.time <;> by_cases h8 : a.size = b.size <;> by_cases h9 : a.gnu = b.gnu <;> simp [h1, h2, h3, h4, h5, h6, h7, h8, h9]
      · simp only [h3, if_false, beq_eq_false_iff_ne.2 h3, Bool.and_false, Bool.false_and, h1, h2, if_true]
    · simp only [h2, if_false, beq_eq_false_iff_ne.2 h2, Bool.and_false, Bool.false_and, h1, if_true]
  · simp only [h1, if_false, beq_eq_false_iff_ne.2 h1, Bool.false_and]
/-- when two heads are the same -/
theorem eqH (a b : HeadV) (w : World) : (binOp .eql 25 (.agg (headC a)) (.agg (headC b))).run Tryd.prog w = .ok (.bool (decide (a = b))) w := by
  rw [run_eql_struct, show (10000 : Nat) = 9997 + 1 + 1 + 1 from rfl, eqH_deep a b 9997 w]
  rfl
end Go.Proofs.YtfmhdkemigpjjaaDoor.Head
