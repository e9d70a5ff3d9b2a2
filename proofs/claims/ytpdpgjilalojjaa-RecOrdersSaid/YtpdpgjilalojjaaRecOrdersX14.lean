/- Texts of this seat, merged: what the proof reaches. -/
import Derived.Test.YtpdpgjilalojjaaRecOrdersX12
import Derived.Test.YtpdpgjilalojjaaRecOrdersX3
import Derived.Lib.ParseIntB
import Derived.Lib.AtoiTie
import Derived.Lib.ItoaNum
import Derived.Lib.IndexLaws
import Derived.Lib.AtoiAll
import Derived.Lib.SlTrimSet
import Derived.Test.YtpdpgjilalojjaaRecOrdersX10
import Derived.Test.YtpdpgjilalojjaaRecOrdersX1
namespace Go.Proofs.Ytpdpgjilalojjaa
namespace Attr
end Attr
namespace Fp
end Fp
namespace Hp
end Hp
namespace Mem
end Mem
namespace Path
end Path
namespace Rec
end Rec
namespace Tre
end Tre
end Go.Proofs.Ytpdpgjilalojjaa
section
namespace Go.Proofs.Ytpdpgjilalojjaa.Mem
open Go.Lib Fp Hp Path Rec Attr
set_option linter.unusedVariables false
structure MemV where
 path:List UInt8
 target:List UInt8
 kind:UInt8
 mode:Int
 uid:Int
 gid:Int
 time:Int
 body:List UInt8
deriving instance DecidableEq for MemV
end Go.Proofs.Ytpdpgjilalojjaa.Mem
end
section
namespace Go.Proofs.Ytpdpgjilalojjaa.Tre
open Mem
set_option linter.unusedVariables false
def ltB (a b:List UInt8):Bool:=Op.bytesLess a b
theorem ltB_nil (b:List UInt8):ltB b []=false:=by cases b<;>rfl
theorem ltB_cons (a b:UInt8) (x y:List UInt8):ltB (a :: x) (b :: y)=(decide (a < b) || (a == b && ltB x y)):=rfl
theorem ltB_irrefl (a:List UInt8):ltB a a=false:=by
 induction a with
 | nil => rfl
 | cons b l ih => rw [ltB_cons,ih];simp
theorem ltB_trans (a:List UInt8):∀ b c,ltB a b=true → ltB b c=true → ltB a c=true:=by
 induction a with
 | nil => intro b c h1 h2
          cases c with
          | nil => rw [ltB_nil] at h2;cases h2
          | cons c z => rfl
 | cons a x ih =>
   intro b c h1 h2
   cases b with
   | nil => rw [ltB_nil] at h1;cases h1
   | cons b y =>
     cases c with
     | nil => rw [ltB_nil] at h2;cases h2
     | cons c z =>
       rw [ltB_cons] at h1 h2 ⊢;simp only [Bool.or_eq_true,decide_eq_true_eq,Bool.and_eq_true,beq_iff_eq] at h1 h2 ⊢;rcases h1 with h1 | ⟨rfl,h1⟩
       ·rcases h2 with h2 | ⟨rfl,h2⟩
        ·exact .inl (UInt8.lt_trans h1 h2)
        ·exact .inl h1
       ·rcases h2 with h2 | ⟨rfl,h2⟩
        ·exact .inl h2
        ·exact .inr ⟨rfl,ih y z h1 h2⟩
theorem ltB_tri (a:List UInt8):∀ b,ltB a b=false → ltB b a=false → a=b:=by
 induction a with
 | nil =>
   intro b h1 h2
   cases b with
   | nil => rfl
   | cons b y => exact absurd h1 (by simp [ltB,Op.bytesLess])
 | cons a x ih =>
   intro b h1 h2
   cases b with
   | nil => exact absurd h2 (by simp [ltB,Op.bytesLess])
   | cons b y =>
     rw [ltB_cons] at h1 h2;simp only [Bool.or_eq_false_iff,decide_eq_false_iff_not] at h1 h2
     have hab:a=b:=by
      apply UInt8.le_antisymm
      ·exact UInt8.not_lt.1 h2.1
      ·exact UInt8.not_lt.1 h1.1
     subst hab;have e1:ltB x y=false:=by simpa using h1.2
     have e2:ltB y x=false:=by simpa using h2.2
     rw [ih y e1 e2]
theorem ltB_asym {a b:List UInt8} (h:ltB a b=true):ltB b a=false:=by
 cases hb:ltB b a with
 | false => rfl
 | true => have:=ltB_trans a b a h hb;rw [ltB_irrefl] at this;cases this
theorem ltB_ne {a b:List UInt8} (h:ltB a b=true):a≠b:=fun e => by subst e;rw [ltB_irrefl] at h;cases h
structure NodeV where
 path:List UInt8
 target:List UInt8
 leader:List UInt8
 kind:UInt8
 mode:Int
 uid:Int
 gid:Int
 time:Int
 body:List UInt8
deriving instance DecidableEq for NodeV
def zeroN:NodeV:=⟨[],[],[],0,0,0,0,0,[]⟩
end Go.Proofs.Ytpdpgjilalojjaa.Tre
end
section
namespace Go.Proofs.Ytpdpgjilalojjaa.Itm
open Tre
set_option linter.unusedVariables false
structure ItemV where
 key:List UInt8
 seq:Int
 data:List UInt8
deriving instance DecidableEq for ItemV
def zeroI:ItemV:=⟨[],0,[]⟩
def mayI (x:ItemV):Bool:=decide (x.key.length≤200∧0≤x.seq∧x.seq≤4611686018427387904∧x.data.length≤1048576)
theorem mayI_facts {x:ItemV} (h:mayI x=true):x.key.length≤200∧0≤x.seq∧x.seq≤4611686018427387904∧x.data.length≤1048576:=of_decide_eq_true h
def be:Nat → Nat → List UInt8
 | 0,_ => []
 | k+1,n => be k (n / 256)++[UInt8.ofNat (n % 256)]
def num (b:List UInt8):Nat:=b.foldl (fun a c => a * 256+c.toNat) 0
theorem be_length (k:Nat):∀ n,(be k n).length=k:=by
 induction k with
 | zero => intro n;rfl
 | succ k ih => intro n;rw [be,List.length_append,ih];rfl
theorem num_append (a:List UInt8) (c:UInt8):num (a++[c])=num a * 256+c.toNat:=by
 unfold num;rw [List.foldl_append];rfl
theorem num_nil:num []=0:=rfl
theorem num_be (k:Nat):∀ n,n < 256 ^ k → num (be k n)=n:=by
 induction k with
 | zero => intro n h;rw [be,num_nil];omega
 | succ k ih =>
   intro n h;rw [be,num_append,ih (n / 256) (Nat.div_lt_of_lt_mul (by rw [Nat.pow_succ] at h;omega))]
   have:(UInt8.ofNat (n % 256)).toNat=n % 256:=by simp
   rw [this];omega
theorem num_lt (b:List UInt8):num b < 256 ^ b.length:=by
 have:∀ l:List UInt8,num l.reverse < 256 ^ l.length:=fun l => by
  induction l with
  | nil => rw [List.reverse_nil,num_nil];decide
  | cons c l ih =>
    rw [List.reverse_cons,num_append,List.length_cons,Nat.pow_succ];have:=c.toNat_lt;omega
 have h:=this b.reverse
 rwa [List.reverse_reverse,List.length_reverse] at h
theorem num_take_succ (b:List UInt8) (i:Nat) (h:i < b.length):num (b.take (i+1))=num (b.take i) * 256+(b.getD i 0).toNat:=by
 have e:b.take (i+1)=b.take i++[b.getD i 0]:=by
  rw [List.take_add_one,List.getD,List.getElem?_eq_getElem h];rfl
 rw [e,num_append]
theorem num_take_le (b:List UInt8) {i j:Nat} (h:i≤j):num (b.take i)≤num (b.take j):=by
 induction j with
 | zero => have:i=0:=by omega
           subst this;exact Nat.le_refl _
 | succ j ih =>
   by_cases e:i=j+1
   ·subst e;exact Nat.le_refl _
   ·refine Nat.le_trans (ih (by omega)) ?_
    by_cases hj:j < b.length
    ·rw [num_take_succ b j hj];omega
    ·rw [List.take_of_length_le (by omega),List.take_of_length_le (by omega)];exact Nat.le_refl _
def bytesI (x:ItemV):List UInt8:=be 4 x.key.length++x.key++be 8 x.seq.toNat++be 4 x.data.length++x.data
theorem bytesI_length (x:ItemV):(bytesI x).length=16+x.key.length+x.data.length:=by
 unfold bytesI;simp only [List.length_append,be_length];omega
def keyN (b:List UInt8):Nat:=num (b.take 4)
def seqN (b:List UInt8):Nat:=num ((b.drop (4+keyN b)).take 8)
def dataN (b:List UInt8):Nat:=num ((b.drop (12+keyN b)).take 4)
def beginsOk (b:List UInt8):Bool:=decide (16≤b.length∧keyN b≤200∧16+keyN b≤b.length∧seqN b≤4611686018427387904∧dataN b≤1048576∧16+keyN b+dataN b≤b.length)
def beginsV (b:List UInt8):ItemV:=⟨(b.drop 4).take (keyN b),(seqN b:Nat),(b.drop (16+keyN b)).take (dataN b)⟩
def beginsI (b:List UInt8):ItemV × Nat × Bool:=if beginsOk b=true then (beginsV b,16+keyN b+dataN b,true) else (zeroI,0,false)
theorem bytes_keyN {x:ItemV} (h:x.key.length≤200) (more:List UInt8):keyN (bytesI x++more)=x.key.length:=by
 have e:(bytesI x++more).take 4=be 4 x.key.length:=by
  unfold bytesI;simp only [List.append_assoc];rw [List.take_append_of_le_length (by rw [be_length];omega),List.take_of_length_le (by rw [be_length];omega)]
 unfold keyN;rw [e,num_be _ _ (by omega)]
theorem bytes_drop4 (x:ItemV) (more:List UInt8):(bytesI x++more).drop 4=x.key++(be 8 x.seq.toNat++(be 4 x.data.length++(x.data++more))):=by
 unfold bytesI;simp only [List.append_assoc];rw [List.drop_append_of_le_length (by rw [be_length];omega),List.drop_of_length_le (by rw [be_length];omega),List.nil_append]
theorem bytes_drop4k (x:ItemV) (more:List UInt8):(bytesI x++more).drop (4+x.key.length)=be 8 x.seq.toNat++(be 4 x.data.length++(x.data++more)):=by
 rw [← List.drop_drop,bytes_drop4,List.drop_append_of_le_length (Nat.le_refl _),List.drop_of_length_le (Nat.le_refl _),List.nil_append]
theorem bytes_drop12k (x:ItemV) (more:List UInt8):(bytesI x++more).drop (12+x.key.length)=be 4 x.data.length++(x.data++more):=by
 rw [show 12+x.key.length=(4+x.key.length)+8 by omega,← List.drop_drop,bytes_drop4k,List.drop_append_of_le_length (by rw [be_length];omega),List.drop_of_length_le (by rw [be_length];omega),List.nil_append]
theorem bytes_drop16k (x:ItemV) (more:List UInt8):(bytesI x++more).drop (16+x.key.length)=x.data++more:=by
 rw [show 16+x.key.length=(12+x.key.length)+4 by omega,← List.drop_drop,bytes_drop12k,List.drop_append_of_le_length (by rw [be_length];omega),List.drop_of_length_le (by rw [be_length];omega),List.nil_append]
theorem bytes_seqN {x:ItemV} (h:mayI x=true) (more:List UInt8):seqN (bytesI x++more)=x.seq.toNat:=by
 obtain ⟨h1,h2,h3,_⟩:=mayI_facts h;unfold seqN;rw [bytes_keyN h1,bytes_drop4k,List.take_append_of_le_length (by rw [be_length];omega),List.take_of_length_le (by rw [be_length];omega),num_be _ _ (by omega)]
theorem bytes_dataN {x:ItemV} (h:mayI x=true) (more:List UInt8):dataN (bytesI x++more)=x.data.length:=by
 obtain ⟨h1,_,_,h4⟩:=mayI_facts h;unfold dataN;rw [bytes_keyN h1,bytes_drop12k,List.take_append_of_le_length (by rw [be_length];omega),List.take_of_length_le (by rw [be_length];omega),num_be _ _ (by omega)]
theorem begins_bytes {x:ItemV} (h:mayI x=true) (more:List UInt8):beginsI (bytesI x++more)=(x,(bytesI x).length,true):=by
 obtain ⟨h1,h2,h3,h4⟩:=mayI_facts h;have e1:=bytes_keyN h1 more;have e2:=bytes_seqN h more;have e3:=bytes_dataN h more;have hl:(bytesI x++more).length=16+x.key.length+x.data.length+more.length:=by rw [List.length_append,bytesI_length]
 have hok:beginsOk (bytesI x++more)=true:=by
  unfold beginsOk;rw [e1,e2,e3,hl];exact decide_eq_true ⟨by omega,h1,by omega,by omega,h4,by omega⟩
 unfold beginsI;rw [if_pos hok];unfold beginsV;rw [e1,e2,e3,bytes_drop4,bytes_drop16k,bytesI_length,List.take_append_of_le_length (Nat.le_refl _),List.take_of_length_le (Nat.le_refl _),List.take_append_of_le_length (Nat.le_refl _),List.take_of_length_le (Nat.le_refl _),Int.toNat_of_nonneg h2]
def lessI (a b:ItemV):Bool:=ltB a.key b.key || (a.key == b.key && decide (a.seq < b.seq))
theorem lessI_iff {a b:ItemV}:lessI a b=true ↔ ltB a.key b.key=true ∨ (a.key=b.key∧a.seq < b.seq):=by
 unfold lessI;rw [Bool.or_eq_true,Bool.and_eq_true,beq_iff_eq,decide_eq_true_eq]
theorem lessI_asym {a b:ItemV} (h:lessI a b=true):lessI b a=false:=by
 rw [Bool.eq_false_iff];intro h2;rw [lessI_iff] at h h2;rcases h with h | ⟨h,h'⟩
 ·rcases h2 with h2 | ⟨h2,_⟩
  ·rw [ltB_asym h] at h2;cases h2
  ·exact ltB_ne h h2.symm
 ·rcases h2 with h2 | ⟨_,h2⟩
  ·exact ltB_ne h2 h.symm
  ·omega
theorem lessI_trans {a b c:ItemV} (h:lessI a b=true) (h2:lessI b c=true):lessI a c=true:=by
 rw [lessI_iff] at h h2 ⊢;rcases h with h | ⟨h,h'⟩
 ·rcases h2 with h2 | ⟨h2,_⟩
  ·exact .inl (ltB_trans _ _ _ h h2)
  ·rw [← h2];exact .inl h
 ·rcases h2 with h2 | ⟨h2,h2'⟩
  ·rw [h];exact .inl h2
  ·exact .inr ⟨by rw [h,h2],by omega⟩
theorem lessI_tri {a b:ItemV} (h:lessI a b=false) (h2:lessI b a=false):a.key=b.key∧a.seq=b.seq:=by
 have n1:¬ (ltB a.key b.key=true ∨ (a.key=b.key∧a.seq < b.seq)):=by rw [← lessI_iff,h];decide
 have n2:¬ (ltB b.key a.key=true ∨ (b.key=a.key∧b.seq < a.seq)):=by rw [← lessI_iff,h2];decide
 have e:a.key=b.key:=ltB_tri _ _ (by simpa using fun x => n1 (.inl x)) (by simpa using fun x => n2 (.inl x))
 refine ⟨e,?_⟩;have m1:¬ a.seq < b.seq:=fun x => n1 (.inr ⟨e,x⟩)
 have m2:¬ b.seq < a.seq:=fun x => n2 (.inr ⟨e.symm,x⟩)
 omega
end Go.Proofs.Ytpdpgjilalojjaa.Itm
end
