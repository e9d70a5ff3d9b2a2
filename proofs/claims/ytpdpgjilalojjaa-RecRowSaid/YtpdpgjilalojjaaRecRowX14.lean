/- Texts of this seat, merged: what the proof reaches. -/
import Derived.Test.YtpdpgjilalojjaaRecRowX12
import Derived.Test.YtpdpgjilalojjaaRecRowX3
import Derived.Lib.ParseIntB
import Derived.Lib.AtoiTie
import Derived.Lib.ItoaNum
import Derived.Lib.IndexLaws
import Derived.Lib.AtoiAll
import Derived.Lib.SlTrimSet
import Derived.Test.YtpdpgjilalojjaaRecRowX10
import Derived.Test.YtpdpgjilalojjaaRecRowX1
namespace Go.Proofs.Ytpdpgjilalojjaa
namespace Attr
end Attr
namespace Fp
end Fp
namespace Hp
end Hp
namespace Mem
end Mem
namespace Path
end Path
namespace Rec
end Rec
namespace Tre
end Tre
end Go.Proofs.Ytpdpgjilalojjaa
section
namespace Go.Proofs.Ytpdpgjilalojjaa.Mem
open Go.Lib Fp Hp Path Rec Attr
set_option linter.unusedVariables false
structure MemV where
 path:List UInt8
 target:List UInt8
 kind:UInt8
 mode:Int
 uid:Int
 gid:Int
 time:Int
 body:List UInt8
deriving instance DecidableEq for MemV
end Go.Proofs.Ytpdpgjilalojjaa.Mem
end
section
namespace Go.Proofs.Ytpdpgjilalojjaa.Tre
open Mem
set_option linter.unusedVariables false
def ltB (a b:List UInt8):Bool:=Op.bytesLess a b
end Go.Proofs.Ytpdpgjilalojjaa.Tre
end
section
namespace Go.Proofs.Ytpdpgjilalojjaa.Itm
open Tre
set_option linter.unusedVariables false
structure ItemV where
 key:List UInt8
 seq:Int
 data:List UInt8
deriving instance DecidableEq for ItemV
def zeroI:ItemV:=⟨[],0,[]⟩
def mayI (x:ItemV):Bool:=decide (x.key.length≤200∧0≤x.seq∧x.seq≤4611686018427387904∧x.data.length≤1048576)
theorem mayI_facts {x:ItemV} (h:mayI x=true):x.key.length≤200∧0≤x.seq∧x.seq≤4611686018427387904∧x.data.length≤1048576:=of_decide_eq_true h
def be:Nat → Nat → List UInt8
 | 0,_ => []
 | k+1,n => be k (n / 256)++[UInt8.ofNat (n % 256)]
def num (b:List UInt8):Nat:=b.foldl (fun a c => a * 256+c.toNat) 0
theorem be_length (k:Nat):∀ n,(be k n).length=k:=by
 induction k with
 | zero => intro n;rfl
 | succ k ih => intro n;rw [be,List.length_append,ih];rfl
theorem num_append (a:List UInt8) (c:UInt8):num (a++[c])=num a * 256+c.toNat:=by
 unfold num;rw [List.foldl_append];rfl
theorem num_nil:num []=0:=rfl
theorem num_be (k:Nat):∀ n,n < 256 ^ k → num (be k n)=n:=by
 induction k with
 | zero => intro n h;rw [be,num_nil];omega
 | succ k ih =>
   intro n h;rw [be,num_append,ih (n / 256) (Nat.div_lt_of_lt_mul (by rw [Nat.pow_succ] at h;omega))]
   have:(UInt8.ofNat (n % 256)).toNat=n % 256:=by simp
   rw [this];omega
theorem num_lt (b:List UInt8):num b < 256 ^ b.length:=by
 have:∀ l:List UInt8,num l.reverse < 256 ^ l.length:=fun l => by
  induction l with
  | nil => rw [List.reverse_nil,num_nil];decide
  | cons c l ih =>
    rw [List.reverse_cons,num_append,List.length_cons,Nat.pow_succ];have:=c.toNat_lt;omega
 have h:=this b.reverse
 rwa [List.reverse_reverse,List.length_reverse] at h
theorem num_take_succ (b:List UInt8) (i:Nat) (h:i < b.length):num (b.take (i+1))=num (b.take i) * 256+(b.getD i 0).toNat:=by
 have e:b.take (i+1)=b.take i++[b.getD i 0]:=by
  rw [List.take_add_one,List.getD,List.getElem?_eq_getElem h];rfl
 rw [e,num_append]
theorem nums_be (k n:Nat) (tl:List Int):(be (k+1) n).map (fun c => (c.toNat:Int))++tl=(be k (n / 256)).map (fun c => (c.toNat:Int))++((n % 256:Nat):Int) :: tl:=by
 have:(UInt8.ofNat (n % 256)).toNat=n % 256:=by simp
 rw [be,List.map_append,List.append_assoc];simp
theorem num_take_le (b:List UInt8) {i j:Nat} (h:i≤j):num (b.take i)≤num (b.take j):=by
 induction j with
 | zero => have:i=0:=by omega
           subst this;exact Nat.le_refl _
 | succ j ih =>
   by_cases e:i=j+1
   ·subst e;exact Nat.le_refl _
   ·refine Nat.le_trans (ih (by omega)) ?_
    by_cases hj:j < b.length
    ·rw [num_take_succ b j hj];omega
    ·rw [List.take_of_length_le (by omega),List.take_of_length_le (by omega)];exact Nat.le_refl _
def bytesI (x:ItemV):List UInt8:=be 4 x.key.length++x.key++be 8 x.seq.toNat++be 4 x.data.length++x.data
theorem bytesI_length (x:ItemV):(bytesI x).length=16+x.key.length+x.data.length:=by
 unfold bytesI;simp only [List.length_append,be_length];omega
def keyN (b:List UInt8):Nat:=num (b.take 4)
def seqN (b:List UInt8):Nat:=num ((b.drop (4+keyN b)).take 8)
def dataN (b:List UInt8):Nat:=num ((b.drop (12+keyN b)).take 4)
def beginsOk (b:List UInt8):Bool:=decide (16≤b.length∧keyN b≤200∧16+keyN b≤b.length∧seqN b≤4611686018427387904∧dataN b≤1048576∧16+keyN b+dataN b≤b.length)
def beginsV (b:List UInt8):ItemV:=⟨(b.drop 4).take (keyN b),(seqN b:Nat),(b.drop (16+keyN b)).take (dataN b)⟩
def beginsI (b:List UInt8):ItemV × Nat × Bool:=if beginsOk b=true then (beginsV b,16+keyN b+dataN b,true) else (zeroI,0,false)
theorem bytes_keyN {x:ItemV} (h:x.key.length≤200) (more:List UInt8):keyN (bytesI x++more)=x.key.length:=by
 have e:(bytesI x++more).take 4=be 4 x.key.length:=by
  unfold bytesI;simp only [List.append_assoc];rw [List.take_append_of_le_length (by rw [be_length];omega),List.take_of_length_le (by rw [be_length];omega)]
 unfold keyN;rw [e,num_be _ _ (by omega)]
theorem bytes_drop4 (x:ItemV) (more:List UInt8):(bytesI x++more).drop 4=x.key++(be 8 x.seq.toNat++(be 4 x.data.length++(x.data++more))):=by
 unfold bytesI;simp only [List.append_assoc];rw [List.drop_append_of_le_length (by rw [be_length];omega),List.drop_of_length_le (by rw [be_length];omega),List.nil_append]
theorem bytes_drop4k (x:ItemV) (more:List UInt8):(bytesI x++more).drop (4+x.key.length)=be 8 x.seq.toNat++(be 4 x.data.length++(x.data++more)):=by
 rw [← List.drop_drop,bytes_drop4,List.drop_append_of_le_length (Nat.le_refl _),List.drop_of_length_le (Nat.le_refl _),List.nil_append]
theorem bytes_drop12k (x:ItemV) (more:List UInt8):(bytesI x++more).drop (12+x.key.length)=be 4 x.data.length++(x.data++more):=by
 rw [show 12+x.key.length=(4+x.key.length)+8 by omega,← List.drop_drop,bytes_drop4k,List.drop_append_of_le_length (by rw [be_length];omega),List.drop_of_length_le (by rw [be_length];omega),List.nil_append]
theorem bytes_drop16k (x:ItemV) (more:List UInt8):(bytesI x++more).drop (16+x.key.length)=x.data++more:=by
 rw [show 16+x.key.length=(12+x.key.length)+4 by omega,← List.drop_drop,bytes_drop12k,List.drop_append_of_le_length (by rw [be_length];omega),List.drop_of_length_le (by rw [be_length];omega),List.nil_append]
theorem bytes_seqN {x:ItemV} (h:mayI x=true) (more:List UInt8):seqN (bytesI x++more)=x.seq.toNat:=by
 obtain ⟨h1,h2,h3,_⟩:=mayI_facts h;unfold seqN;rw [bytes_keyN h1,bytes_drop4k,List.take_append_of_le_length (by rw [be_length];omega),List.take_of_length_le (by rw [be_length];omega),num_be _ _ (by omega)]
theorem bytes_dataN {x:ItemV} (h:mayI x=true) (more:List UInt8):dataN (bytesI x++more)=x.data.length:=by
 obtain ⟨h1,_,_,h4⟩:=mayI_facts h;unfold dataN;rw [bytes_keyN h1,bytes_drop12k,List.take_append_of_le_length (by rw [be_length];omega),List.take_of_length_le (by rw [be_length];omega),num_be _ _ (by omega)]
theorem begins_bytes {x:ItemV} (h:mayI x=true) (more:List UInt8):beginsI (bytesI x++more)=(x,(bytesI x).length,true):=by
 obtain ⟨h1,h2,h3,h4⟩:=mayI_facts h;have e1:=bytes_keyN h1 more;have e2:=bytes_seqN h more;have e3:=bytes_dataN h more;have hl:(bytesI x++more).length=16+x.key.length+x.data.length+more.length:=by rw [List.length_append,bytesI_length]
 have hok:beginsOk (bytesI x++more)=true:=by
  unfold beginsOk;rw [e1,e2,e3,hl];exact decide_eq_true ⟨by omega,h1,by omega,by omega,h4,by omega⟩
 unfold beginsI;rw [if_pos hok];unfold beginsV;rw [e1,e2,e3,bytes_drop4,bytes_drop16k,bytesI_length,List.take_append_of_le_length (Nat.le_refl _),List.take_of_length_le (Nat.le_refl _),List.take_append_of_le_length (Nat.le_refl _),List.take_of_length_le (Nat.le_refl _),Int.toNat_of_nonneg h2]
theorem begins_cut {x:ItemV} (h:mayI x=true) (more:List UInt8) {m:Nat} (hm:m < (bytesI x).length):beginsI ((bytesI x++more).take m)=(zeroI,0,false):=by
 obtain ⟨h1,h2,h3,h4⟩:=mayI_facts h;rw [bytesI_length] at hm;have hl:((bytesI x++more).take m).length=m:=by rw [List.length_take,List.length_append,bytesI_length];omega
 unfold beginsI;rw [if_neg];intro hok;obtain ⟨a1,a2,a3,a4,a5,a6⟩:=of_decide_eq_true hok;rw [hl] at a1 a3 a6
 have e1:keyN ((bytesI x++more).take m)=x.key.length:=by
  have:((bytesI x++more).take m).take 4=(bytesI x++more).take 4:=by rw [List.take_take,Nat.min_eq_left (by omega)]
  unfold keyN at *;rw [this];exact bytes_keyN h1 more
 rw [e1] at a3 a6
 have e3:dataN ((bytesI x++more).take m)=x.data.length:=by
  unfold dataN;rw [e1,List.drop_take,List.take_take,Nat.min_eq_left (by omega)]
  have:=bytes_dataN h more;unfold dataN at this
  rwa [bytes_keyN h1] at this
 rw [e3] at a6;omega
def lessI (a b:ItemV):Bool:=ltB a.key b.key || (a.key == b.key && decide (a.seq < b.seq))
end Go.Proofs.Ytpdpgjilalojjaa.Itm
end
