/- Texts of this seat, merged: what the proof reaches. -/
import Derived.Test.YtpdpgjilalojjaaRecSortsX12
import Derived.Test.YtpdpgjilalojjaaRecSortsX3
import Derived.Lib.ParseIntB
import Derived.Lib.AtoiTie
import Derived.Lib.ItoaNum
import Derived.Lib.IndexLaws
import Derived.Lib.AtoiAll
import Derived.Lib.SlTrimSet
import Derived.Test.YtpdpgjilalojjaaRecSortsX10
import Derived.Test.YtpdpgjilalojjaaRecSortsX1
namespace Go.Proofs.Ytpdpgjilalojjaa
namespace Attr
end Attr
namespace Fp
end Fp
namespace Hp
end Hp
namespace Mem
end Mem
namespace Path
end Path
namespace Rec
end Rec
namespace Tre
end Tre
end Go.Proofs.Ytpdpgjilalojjaa
section
namespace Go.Proofs.Ytpdpgjilalojjaa.Mem
open Go.Lib Fp Hp Path Rec Attr
set_option linter.unusedVariables false
structure MemV where
 path:List UInt8
 target:List UInt8
 kind:UInt8
 mode:Int
 uid:Int
 gid:Int
 time:Int
 body:List UInt8
deriving instance DecidableEq for MemV
end Go.Proofs.Ytpdpgjilalojjaa.Mem
end
section
namespace Go.Proofs.Ytpdpgjilalojjaa.Tre
open Mem
set_option linter.unusedVariables false
def ltB (a b:List UInt8):Bool:=Op.bytesLess a b
theorem ltB_nil (b:List UInt8):ltB b []=false:=by cases b<;>rfl
theorem ltB_cons (a b:UInt8) (x y:List UInt8):ltB (a :: x) (b :: y)=(decide (a < b) || (a == b && ltB x y)):=rfl
theorem ltB_irrefl (a:List UInt8):ltB a a=false:=by
 induction a with
 | nil => rfl
 | cons b l ih => rw [ltB_cons,ih];simp
theorem ltB_trans (a:List UInt8):∀ b c,ltB a b=true → ltB b c=true → ltB a c=true:=by
 induction a with
 | nil => intro b c h1 h2
          cases c with
          | nil => rw [ltB_nil] at h2;cases h2
          | cons c z => rfl
 | cons a x ih =>
   intro b c h1 h2
   cases b with
   | nil => rw [ltB_nil] at h1;cases h1
   | cons b y =>
     cases c with
     | nil => rw [ltB_nil] at h2;cases h2
     | cons c z =>
       rw [ltB_cons] at h1 h2 ⊢;simp only [Bool.or_eq_true,decide_eq_true_eq,Bool.and_eq_true,beq_iff_eq] at h1 h2 ⊢;rcases h1 with h1 | ⟨rfl,h1⟩
       ·rcases h2 with h2 | ⟨rfl,h2⟩
        ·exact .inl (UInt8.lt_trans h1 h2)
        ·exact .inl h1
       ·rcases h2 with h2 | ⟨rfl,h2⟩
        ·exact .inl h2
        ·exact .inr ⟨rfl,ih y z h1 h2⟩
theorem ltB_tri (a:List UInt8):∀ b,ltB a b=false → ltB b a=false → a=b:=by
 induction a with
 | nil =>
   intro b h1 h2
   cases b with
   | nil => rfl
   | cons b y => exact absurd h1 (by simp [ltB,Op.bytesLess])
 | cons a x ih =>
   intro b h1 h2
   cases b with
   | nil => exact absurd h2 (by simp [ltB,Op.bytesLess])
   | cons b y =>
     rw [ltB_cons] at h1 h2;simp only [Bool.or_eq_false_iff,decide_eq_false_iff_not] at h1 h2
     have hab:a=b:=by
      apply UInt8.le_antisymm
      ·exact UInt8.not_lt.1 h2.1
      ·exact UInt8.not_lt.1 h1.1
     subst hab;have e1:ltB x y=false:=by simpa using h1.2
     have e2:ltB y x=false:=by simpa using h2.2
     rw [ih y e1 e2]
theorem ltB_asym {a b:List UInt8} (h:ltB a b=true):ltB b a=false:=by
 cases hb:ltB b a with
 | false => rfl
 | true => have:=ltB_trans a b a h hb;rw [ltB_irrefl] at this;cases this
theorem ltB_ne {a b:List UInt8} (h:ltB a b=true):a≠b:=fun e => by subst e;rw [ltB_irrefl] at h;cases h
structure NodeV where
 path:List UInt8
 target:List UInt8
 leader:List UInt8
 kind:UInt8
 mode:Int
 uid:Int
 gid:Int
 time:Int
 body:List UInt8
deriving instance DecidableEq for NodeV
def zeroN:NodeV:=⟨[],[],[],0,0,0,0,0,[]⟩
def NodeV.mem (x:NodeV):MemV:=⟨x.path,x.target,x.kind,x.mode,x.uid,x.gid,x.time,x.body⟩
abbrev St:=List (List UInt8 × Nat)
def putS (S:St) (p:List UInt8) (n:Nat):St:=S.filter (fun e => !(e.1 == p))++[(p,n)]
end Go.Proofs.Ytpdpgjilalojjaa.Tre
end
section
namespace Go.Proofs.Ytpdpgjilalojjaa.Itm
open Tre
set_option linter.unusedVariables false
structure ItemV where
 key:List UInt8
 seq:Int
 data:List UInt8
deriving instance DecidableEq for ItemV
def zeroI:ItemV:=⟨[],0,[]⟩
def mayI (x:ItemV):Bool:=decide (x.key.length≤200∧0≤x.seq∧x.seq≤4611686018427387904∧x.data.length≤1048576)
theorem mayI_facts {x:ItemV} (h:mayI x=true):x.key.length≤200∧0≤x.seq∧x.seq≤4611686018427387904∧x.data.length≤1048576:=of_decide_eq_true h
def be:Nat → Nat → List UInt8
 | 0,_ => []
 | k+1,n => be k (n / 256)++[UInt8.ofNat (n % 256)]
def num (b:List UInt8):Nat:=b.foldl (fun a c => a * 256+c.toNat) 0
theorem be_length (k:Nat):∀ n,(be k n).length=k:=by
 induction k with
 | zero => intro n;rfl
 | succ k ih => intro n;rw [be,List.length_append,ih];rfl
theorem num_append (a:List UInt8) (c:UInt8):num (a++[c])=num a * 256+c.toNat:=by
 unfold num;rw [List.foldl_append];rfl
theorem num_nil:num []=0:=rfl
theorem num_be (k:Nat):∀ n,n < 256 ^ k → num (be k n)=n:=by
 induction k with
 | zero => intro n h;rw [be,num_nil];omega
 | succ k ih =>
   intro n h;rw [be,num_append,ih (n / 256) (Nat.div_lt_of_lt_mul (by rw [Nat.pow_succ] at h;omega))]
   have:(UInt8.ofNat (n % 256)).toNat=n % 256:=by simp
   rw [this];omega
theorem num_lt (b:List UInt8):num b < 256 ^ b.length:=by
 have:∀ l:List UInt8,num l.reverse < 256 ^ l.length:=fun l => by
  induction l with
  | nil => rw [List.reverse_nil,num_nil];decide
  | cons c l ih =>
    rw [List.reverse_cons,num_append,List.length_cons,Nat.pow_succ];have:=c.toNat_lt;omega
 have h:=this b.reverse
 rwa [List.reverse_reverse,List.length_reverse] at h
theorem num_take_succ (b:List UInt8) (i:Nat) (h:i < b.length):num (b.take (i+1))=num (b.take i) * 256+(b.getD i 0).toNat:=by
 have e:b.take (i+1)=b.take i++[b.getD i 0]:=by
  rw [List.take_add_one,List.getD,List.getElem?_eq_getElem h];rfl
 rw [e,num_append]
theorem num_take_le (b:List UInt8) {i j:Nat} (h:i≤j):num (b.take i)≤num (b.take j):=by
 induction j with
 | zero => have:i=0:=by omega
           subst this;exact Nat.le_refl _
 | succ j ih =>
   by_cases e:i=j+1
   ·subst e;exact Nat.le_refl _
   ·refine Nat.le_trans (ih (by omega)) ?_
    by_cases hj:j < b.length
    ·rw [num_take_succ b j hj];omega
    ·rw [List.take_of_length_le (by omega),List.take_of_length_le (by omega)];exact Nat.le_refl _
def bytesI (x:ItemV):List UInt8:=be 4 x.key.length++x.key++be 8 x.seq.toNat++be 4 x.data.length++x.data
theorem bytesI_length (x:ItemV):(bytesI x).length=16+x.key.length+x.data.length:=by
 unfold bytesI;simp only [List.length_append,be_length];omega
def keyN (b:List UInt8):Nat:=num (b.take 4)
def seqN (b:List UInt8):Nat:=num ((b.drop (4+keyN b)).take 8)
def dataN (b:List UInt8):Nat:=num ((b.drop (12+keyN b)).take 4)
def beginsOk (b:List UInt8):Bool:=decide (16≤b.length∧keyN b≤200∧16+keyN b≤b.length∧seqN b≤4611686018427387904∧dataN b≤1048576∧16+keyN b+dataN b≤b.length)
def beginsV (b:List UInt8):ItemV:=⟨(b.drop 4).take (keyN b),(seqN b:Nat),(b.drop (16+keyN b)).take (dataN b)⟩
def beginsI (b:List UInt8):ItemV × Nat × Bool:=if beginsOk b=true then (beginsV b,16+keyN b+dataN b,true) else (zeroI,0,false)
theorem bytes_keyN {x:ItemV} (h:x.key.length≤200) (more:List UInt8):keyN (bytesI x++more)=x.key.length:=by
 have e:(bytesI x++more).take 4=be 4 x.key.length:=by
  unfold bytesI;simp only [List.append_assoc];rw [List.take_append_of_le_length (by rw [be_length];omega),List.take_of_length_le (by rw [be_length];omega)]
 unfold keyN;rw [e,num_be _ _ (by omega)]
theorem bytes_drop4 (x:ItemV) (more:List UInt8):(bytesI x++more).drop 4=x.key++(be 8 x.seq.toNat++(be 4 x.data.length++(x.data++more))):=by
 unfold bytesI;simp only [List.append_assoc];rw [List.drop_append_of_le_length (by rw [be_length];omega),List.drop_of_length_le (by rw [be_length];omega),List.nil_append]
theorem bytes_drop4k (x:ItemV) (more:List UInt8):(bytesI x++more).drop (4+x.key.length)=be 8 x.seq.toNat++(be 4 x.data.length++(x.data++more)):=by
 rw [← List.drop_drop,bytes_drop4,List.drop_append_of_le_length (Nat.le_refl _),List.drop_of_length_le (Nat.le_refl _),List.nil_append]
theorem bytes_drop12k (x:ItemV) (more:List UInt8):(bytesI x++more).drop (12+x.key.length)=be 4 x.data.length++(x.data++more):=by
 rw [show 12+x.key.length=(4+x.key.length)+8 by omega,← List.drop_drop,bytes_drop4k,List.drop_append_of_le_length (by rw [be_length];omega),List.drop_of_length_le (by rw [be_length];omega),List.nil_append]
theorem bytes_drop16k (x:ItemV) (more:List UInt8):(bytesI x++more).drop (16+x.key.length)=x.data++more:=by
 rw [show 16+x.key.length=(12+x.key.length)+4 by omega,← List.drop_drop,bytes_drop12k,List.drop_append_of_le_length (by rw [be_length];omega),List.drop_of_length_le (by rw [be_length];omega),List.nil_append]
theorem bytes_seqN {x:ItemV} (h:mayI x=true) (more:List UInt8):seqN (bytesI x++more)=x.seq.toNat:=by
 obtain ⟨h1,h2,h3,_⟩:=mayI_facts h;unfold seqN;rw [bytes_keyN h1,bytes_drop4k,List.take_append_of_le_length (by rw [be_length];omega),List.take_of_length_le (by rw [be_length];omega),num_be _ _ (by omega)]
theorem bytes_dataN {x:ItemV} (h:mayI x=true) (more:List UInt8):dataN (bytesI x++more)=x.data.length:=by
 obtain ⟨h1,_,_,h4⟩:=mayI_facts h;unfold dataN;rw [bytes_keyN h1,bytes_drop12k,List.take_append_of_le_length (by rw [be_length];omega),List.take_of_length_le (by rw [be_length];omega),num_be _ _ (by omega)]
theorem begins_bytes {x:ItemV} (h:mayI x=true) (more:List UInt8):beginsI (bytesI x++more)=(x,(bytesI x).length,true):=by
 obtain ⟨h1,h2,h3,h4⟩:=mayI_facts h;have e1:=bytes_keyN h1 more;have e2:=bytes_seqN h more;have e3:=bytes_dataN h more;have hl:(bytesI x++more).length=16+x.key.length+x.data.length+more.length:=by rw [List.length_append,bytesI_length]
 have hok:beginsOk (bytesI x++more)=true:=by
  unfold beginsOk;rw [e1,e2,e3,hl];exact decide_eq_true ⟨by omega,h1,by omega,by omega,h4,by omega⟩
 unfold beginsI;rw [if_pos hok];unfold beginsV;rw [e1,e2,e3,bytes_drop4,bytes_drop16k,bytesI_length,List.take_append_of_le_length (Nat.le_refl _),List.take_of_length_le (Nat.le_refl _),List.take_append_of_le_length (Nat.le_refl _),List.take_of_length_le (Nat.le_refl _),Int.toNat_of_nonneg h2]
def lessI (a b:ItemV):Bool:=ltB a.key b.key || (a.key == b.key && decide (a.seq < b.seq))
theorem lessI_iff {a b:ItemV}:lessI a b=true ↔ ltB a.key b.key=true ∨ (a.key=b.key∧a.seq < b.seq):=by
 unfold lessI;rw [Bool.or_eq_true,Bool.and_eq_true,beq_iff_eq,decide_eq_true_eq]
theorem lessI_asym {a b:ItemV} (h:lessI a b=true):lessI b a=false:=by
 rw [Bool.eq_false_iff];intro h2;rw [lessI_iff] at h h2;rcases h with h | ⟨h,h'⟩
 ·rcases h2 with h2 | ⟨h2,_⟩
  ·rw [ltB_asym h] at h2;cases h2
  ·exact ltB_ne h h2.symm
 ·rcases h2 with h2 | ⟨_,h2⟩
  ·exact ltB_ne h2 h.symm
  ·omega
theorem lessI_trans {a b c:ItemV} (h:lessI a b=true) (h2:lessI b c=true):lessI a c=true:=by
 rw [lessI_iff] at h h2 ⊢;rcases h with h | ⟨h,h'⟩
 ·rcases h2 with h2 | ⟨h2,_⟩
  ·exact .inl (ltB_trans _ _ _ h h2)
  ·rw [← h2];exact .inl h
 ·rcases h2 with h2 | ⟨h2,h2'⟩
  ·rw [h];exact .inl h2
  ·exact .inr ⟨by rw [h,h2],by omega⟩
theorem lessI_tri {a b:ItemV} (h:lessI a b=false) (h2:lessI b a=false):a.key=b.key∧a.seq=b.seq:=by
 have n1:¬ (ltB a.key b.key=true ∨ (a.key=b.key∧a.seq < b.seq)):=by rw [← lessI_iff,h];decide
 have n2:¬ (ltB b.key a.key=true ∨ (b.key=a.key∧b.seq < a.seq)):=by rw [← lessI_iff,h2];decide
 have e:a.key=b.key:=ltB_tri _ _ (by simpa using fun x => n1 (.inl x)) (by simpa using fun x => n2 (.inl x))
 refine ⟨e,?_⟩;have m1:¬ a.seq < b.seq:=fun x => n1 (.inr ⟨e,x⟩)
 have m2:¬ b.seq < a.seq:=fun x => n2 (.inr ⟨e.symm,x⟩)
 omega
theorem leI_trans {a b c:ItemV} (h:lessI b a=false) (h2:lessI c b=false):lessI c a=false:=by
 rw [Bool.eq_false_iff];intro h3
 have hab:lessI a b=true ∨ (a.key=b.key∧a.seq=b.seq):=by
  by_cases e:lessI a b=true
  ·exact .inl e
  ·exact .inr (lessI_tri (by simpa using e) h)
 rcases hab with hab | ⟨e1,e2⟩
 ·have:=lessI_trans h3 hab
  rw [h2] at this;cases this
 ·have:lessI c b=true:=by
   rw [lessI_iff] at h3 ⊢;rw [← e1,← e2];exact h3
  rw [h2] at this;cases this
def putI (x:ItemV):List ItemV → List ItemV
 | [] => [x]
 | y :: l => if lessI x y=true then x :: y :: l else y :: putI x l
def sortI (l:List ItemV):List ItemV:=l.foldl (fun s x => putI x s) []
theorem sortI_take_succ (l:List ItemV) (i:Nat) (h:i < l.length):sortI (l.take (i+1))=putI (l.getD i zeroI) (sortI (l.take i)):=by
 have e:l.take (i+1)=l.take i++[l.getD i zeroI]:=by
  rw [List.take_add_one,List.getD,List.getElem?_eq_getElem h];rfl
 unfold sortI;rw [e,List.foldl_append];rfl
theorem putI_perm (x:ItemV) (l:List ItemV):(putI x l).Perm (x :: l):=by
 induction l with
 | nil => exact .refl _
 | cons y l ih =>
   rw [putI]
   split
   ·exact .refl _
   ·exact (ih.cons y).trans (.swap x y l)
theorem sortI_perm (l:List ItemV):(sortI l).Perm l:=by
 have:∀ (l s:List ItemV),(l.foldl (fun s x => putI x s) s).Perm (s++l):=fun l => by
  induction l with
  | nil => intro s;rw [List.append_nil];exact .refl _
  | cons x l ih =>
    intro s;rw [List.foldl_cons];refine (ih _).trans ?_
    refine ((putI_perm x s).append_right l).trans ?_
    exact List.perm_middle.symm
 exact this l []
theorem sortI_length (l:List ItemV):(sortI l).length=l.length:=(sortI_perm l).length_eq
def InOrd (l:List ItemV):Prop:=l.Pairwise fun a b => lessI b a=false
theorem putI_ord {x:ItemV} {l:List ItemV} (h:InOrd l):InOrd (putI x l):=by
 induction l with
 | nil => exact List.pairwise_singleton _ _
 | cons y l ih =>
   have h':=List.pairwise_cons.1 h;rw [putI]
   split
   next hx =>
    refine List.pairwise_cons.2 ⟨fun z hz => ?_,h⟩
    rcases List.mem_cons.1 hz with rfl | hz
    ·exact lessI_asym hx
    ·exact leI_trans (lessI_asym hx) (h'.1 z hz)
   next hx =>
    refine List.pairwise_cons.2 ⟨fun z hz => ?_,ih h'.2⟩
    rcases List.mem_cons.1 ((putI_perm x l).mem_iff.1 hz) with rfl | hz
    ·simpa using hx
    ·exact h'.1 z hz
theorem sortI_ord (l:List ItemV):InOrd (sortI l):=by
 have:∀ (l s:List ItemV),InOrd s → InOrd (l.foldl (fun s x => putI x s) s):=fun l => by
  induction l with
  | nil => intro s h;exact h
  | cons x l ih => intro s h;exact ih _ (putI_ord h)
 exact this l [] List.Pairwise.nil
def alike (a b:ItemV):Bool:=a.key == b.key && a.seq == b.seq
theorem alike_not_less {a b:ItemV} (h:alike a b=true):lessI a b=false:=by
 unfold alike at h;rw [Bool.and_eq_true,beq_iff_eq,beq_iff_eq] at h;rw [Bool.eq_false_iff];intro h2;rw [lessI_iff] at h2;rcases h2 with h2 | ⟨_,h2⟩
 ·exact ltB_ne h2 h.1
 ·omega
theorem alike_of {a b:ItemV} (h1:lessI a b=false) (h2:lessI b a=false):alike a b=true:=by
 obtain ⟨e1,e2⟩:=lessI_tri h1 h2;unfold alike;rw [e1,e2];simp
theorem alike_symm {a b:ItemV} (h:alike a b=true):alike b a=true:=by
 unfold alike at h ⊢;rw [Bool.and_eq_true,beq_iff_eq,beq_iff_eq] at h ⊢;exact ⟨h.1.symm,h.2.symm⟩
theorem alike_refl (a:ItemV):alike a a=true:=by unfold alike;simp
theorem alike_trans {a b c:ItemV} (h:alike a b=true) (h2:alike b c=true):alike a c=true:=by
 unfold alike at h h2 ⊢;rw [Bool.and_eq_true,beq_iff_eq,beq_iff_eq] at h h2 ⊢;exact ⟨h.1.trans h2.1,h.2.trans h2.2⟩
theorem putI_alike {x c:ItemV} {l:List ItemV} (h:InOrd l):(putI x l).filter (alike c)=l.filter (alike c)++[x].filter (alike c):=by
 induction l with
 | nil => rfl
 | cons y l ih =>
   have h':=List.pairwise_cons.1 h;rw [putI]
   split
   next hx =>
    by_cases hc:alike c x=true
    ·have hn:(y :: l).filter (alike c)=[]:=by
      rw [List.filter_eq_nil_iff];intro z hz hcz;have hxz:alike x z=true:=alike_trans (alike_symm hc) hcz;rcases List.mem_cons.1 hz with rfl | hz
      ·rw [alike_not_less hxz] at hx;cases hx
      ·have h1:=h'.1 z hz
       have h2:lessI x z=false:=alike_not_less hxz;have h3:lessI z x=false:=alike_not_less (alike_symm hxz);have h4:=leI_trans h1 h2;rw [h4] at hx;cases hx
     rw [List.filter_cons,if_pos hc,hn];simp [hc]
    ·have e:[x].filter (alike c)=[]:=by simp [hc]
     rw [e,List.append_nil,List.filter_cons,if_neg hc]
   next hx =>
    rw [List.filter_cons,List.filter_cons,ih h'.2]
    split<;>rfl
theorem sortI_alike (c:ItemV) (l:List ItemV):(sortI l).filter (alike c)=l.filter (alike c):=by
 have:∀ (l s:List ItemV),InOrd s → (l.foldl (fun s x => putI x s) s).filter (alike c)=s.filter (alike c)++l.filter (alike c):=fun l => by
  induction l with
  | nil => intro s _;simp
  | cons x l ih =>
    intro s h;rw [List.foldl_cons,ih _ (putI_ord h),putI_alike h,List.append_assoc,← List.filter_append];rfl
 exact this l [] List.Pairwise.nil
theorem sort_one {a b:List ItemV} (ha:InOrd a) (hb:InOrd b) (h:∀ c,a.filter (alike c)=b.filter (alike c)):a=b:=by
 induction a generalizing b with
 | nil =>
   cases b with
   | nil => rfl
   | cons y b => have:=h y;rw [List.filter_nil,List.filter_cons,if_pos (alike_refl y)] at this;cases this
 | cons x a ih =>
   cases b with
   | nil => have:=h x;rw [List.filter_nil,List.filter_cons,if_pos (alike_refl x)] at this;cases this
   | cons y b =>
     have ha':=List.pairwise_cons.1 ha;have hb':=List.pairwise_cons.1 hb
     have hmem:∀ {u v:ItemV} {l m:List ItemV},(∀ c,(u :: l).filter (alike c)=m.filter (alike c)) → u ∈ m:=fun {u v l m} hh => by
      have h1:=hh u;rw [List.filter_cons,if_pos (alike_refl u)] at h1;have:u ∈ m.filter (alike u):=by rw [← h1];exact List.mem_cons_self ..
      exact (List.mem_filter.1 this).1
     have hx:x ∈ y :: b:=hmem (v:=x) h;have hy:y ∈ x :: a:=hmem (v:=x) fun c => (h c).symm
     have h1:lessI x y=false:=by
      rcases List.mem_cons.1 hx with e | hx
      ·subst e;exact alike_not_less (alike_refl _)
      ·exact hb'.1 x hx
     have h2:lessI y x=false:=by
      rcases List.mem_cons.1 hy with e | hy
      ·subst e;exact alike_not_less (alike_refl _)
      ·exact ha'.1 y hy
     have hxy:=alike_of h1 h2
     have e:x=y:=by
      have:=h x;rw [List.filter_cons,if_pos (alike_refl x),List.filter_cons,if_pos hxy] at this;exact (List.cons.inj this).1
     subst e;rw [ih ha'.2 hb'.2 fun c => ?_]
     have:=h c;rw [List.filter_cons,List.filter_cons] at this
     split at this
     ·exact (List.cons.inj this).2
     ·exact this
theorem sort_is {a l:List ItemV} (ha:InOrd a) (h:∀ c,a.filter (alike c)=l.filter (alike c)):a=sortI l:=
 sort_one ha (sortI_ord l) fun c => by rw [h c,sortI_alike]
theorem putI_at {x:ItemV} {s:List ItemV}:∀ {k:Nat},InOrd s → k≤s.length → (∀ y ∈ s.drop k,lessI x y=true) → (k=0 ∨ lessI x (s.getD (k - 1) zeroI)=false) → putI x s=s.take k++x :: s.drop k:=by
 induction s with
 | nil => intro k _ _ _ _;simp [putI]
 | cons y l ih =>
   intro k hs hk hd he;have hs':=List.pairwise_cons.1 hs
   cases k with
   | zero =>
     rw [List.take_zero,List.drop_zero,List.nil_append,putI,if_pos (hd y (by simp))]
   | succ k =>
     have he':lessI x ((y :: l).getD k zeroI)=false:=by
      rcases he with he | he
      ·omega
      ·exact he
     have hxy:lessI x y=false:=by
      cases k with
      | zero => exact he'
      | succ k =>
        rw [List.length_cons] at hk
        have e:(y :: l).getD (k+1) zeroI=l[k]'(by omega):=by
         rw [List.getD,List.getElem?_cons_succ,List.getElem?_eq_getElem (by omega)];rfl
        rw [e] at he';exact leI_trans (hs'.1 _ (List.getElem_mem _)) he'
     rw [List.take_succ_cons,List.drop_succ_cons,putI,if_neg (by rw [hxy];decide),List.cons_append]
     congr 1
     refine ih hs'.2 (by simpa using hk) (by simpa using hd) ?_
     cases k with
     | zero => exact .inl rfl
     | succ k => exact .inr (by simpa [List.getD] using he')
theorem swap_app {α:Type} (A:List α) (a b:α) (B:List α):((A++a :: b :: B).set (A.length+1) a).set A.length b=A++b :: a :: B:=by
 rw [List.set_append_right _ _ (by omega),List.set_append_right _ _ (by omega)]
 simp
def midI (l:List ItemV) (i k:Nat):List ItemV:=(sortI (l.take i)).take k++l.getD i zeroI :: ((sortI (l.take i)).drop k++l.drop (i+1))
theorem sortI_take_length {l:List ItemV} {i:Nat} (hi:i≤l.length):(sortI (l.take i)).length=i:=by
 rw [sortI_length,List.length_take];omega
theorem midI_start {l:List ItemV} {i:Nat} (hi:i < l.length):midI l i i=sortI (l.take i)++l.drop i:=by
 have hl:=sortI_take_length (l:=l) (i:=i) (by omega)
 unfold midI;rw [List.take_of_length_le (by omega),List.drop_of_length_le (by omega),List.nil_append,List.drop_eq_getElem_cons hi,List.getD,List.getElem?_eq_getElem hi]
 rfl
theorem midI_length {l:List ItemV} {i k:Nat} (hi:i < l.length) (hk:k≤i):(midI l i k).length=l.length:=by
 have hl:=sortI_take_length (l:=l) (i:=i) (by omega)
 unfold midI;simp only [List.length_append,List.length_take,List.length_cons,List.length_drop];omega
theorem midI_get {l:List ItemV} {i k:Nat} (hi:i < l.length) (hk:k≤i):(midI l i k).getD k zeroI=l.getD i zeroI:=by
 have hl:=sortI_take_length (l:=l) (i:=i) (by omega)
 unfold midI;rw [List.getD,List.getElem?_append_right (by rw [List.length_take];omega),List.length_take,show k - min k (sortI (l.take i)).length=0 by omega]
 rfl
theorem midI_prev {l:List ItemV} {i k:Nat} (hi:i < l.length) (hk:k+1≤i):(midI l i (k+1)).getD k zeroI=(sortI (l.take i)).getD k zeroI:=by
 have hl:=sortI_take_length (l:=l) (i:=i) (by omega)
 unfold midI;rw [List.getD,List.getElem?_append_left (by rw [List.length_take];omega),List.getElem?_take,if_pos (by omega)]
 rfl
theorem midI_swap {l:List ItemV} {i k:Nat} (hi:i < l.length) (hk:k+1≤i) :
 ((midI l i (k+1)).set (k+1) ((midI l i (k+1)).getD k zeroI)).set k ((midI l i (k+1)).getD (k+1) zeroI)=midI l i k:=by
 have hl:=sortI_take_length (l:=l) (i:=i) (by omega)
 rw [midI_get hi hk,midI_prev hi hk];unfold midI;obtain ⟨s,hs⟩:∃ s,sortI (l.take i)=s:=⟨_,rfl⟩;rw [hs] at hl ⊢
 have e:s.take (k+1)=s.take k++[s.getD k zeroI]:=by
  rw [List.take_add_one,List.getD,List.getElem?_eq_getElem (by omega)];rfl
 have e2:s.drop k=s.getD k zeroI :: s.drop (k+1):=by
  rw [List.drop_eq_getElem_cons (by omega),List.getD,List.getElem?_eq_getElem (by omega)];rfl
 have hA:(s.take k).length=k:=by rw [List.length_take];omega
 have:=swap_app (s.take k) (s.getD k zeroI) (l.getD i zeroI) (s.drop (k+1)++l.drop (i+1));rw [hA] at this;rw [e,e2,List.append_assoc];exact this
def Past (l:List ItemV) (i k:Nat):Prop:=∀ y ∈ (sortI (l.take i)).drop k,lessI (l.getD i zeroI) y=true
theorem Past.start {l:List ItemV} {i:Nat} (hi:i < l.length):Past l i i:=by
 unfold Past;rw [List.drop_of_length_le (by rw [sortI_take_length (by omega)];omega)]
 intro y hy
 cases hy
theorem Past.step {l:List ItemV} {i k:Nat} (hi:i < l.length) (hk:k+1≤i) (h:Past l i (k+1)) (hlt:lessI (l.getD i zeroI) ((sortI (l.take i)).getD k zeroI)=true):Past l i k:=by
 have hl:=sortI_take_length (l:=l) (i:=i) (by omega)
 unfold Past;rw [List.drop_eq_getElem_cons (by omega)]
 intro y hy;rcases List.mem_cons.1 hy with rfl | hy
 ·have e:(sortI (l.take i)).getD k zeroI=(sortI (l.take i))[k]'(by omega):=by rw [List.getD,List.getElem?_eq_getElem (by omega)];rfl
  rw [e] at hlt;exact hlt
 ·exact h y hy
theorem Past.done {l:List ItemV} {i k:Nat} (hi:i < l.length) (hk:k≤i) (h:Past l i k) (he:k=0 ∨ lessI (l.getD i zeroI) ((sortI (l.take i)).getD (k - 1) zeroI)=false):midI l i k=sortI (l.take (i+1))++l.drop (i+1):=by
 have hl:=sortI_take_length (l:=l) (i:=i) (by omega)
 rw [sortI_take_succ l i hi,putI_at (sortI_ord _) (by omega) h he]
 unfold midI;simp
end Go.Proofs.Ytpdpgjilalojjaa.Itm
end
section
namespace Go.Proofs.Ytpdpgjilalojjaa.Itm
open Tre
set_option linter.unusedVariables false
def swapL (l:List ItemV) (i j:Nat):List ItemV:=(l.set i (l.getD j zeroI)).set j (l.getD i zeroI)
def swapN (l:List ItemV) (a b:Nat):Nat → List ItemV
 | 0 => l
 | k+1 => swapL (swapN l a b k) (a+k) (b+k)
theorem swapL_mid (A:List ItemV) (x:ItemV) (M:List ItemV) (y:ItemV) (Z:List ItemV):swapL (A++x :: (M++y :: Z)) A.length (A.length+1+M.length)=A++y :: (M++x :: Z):=by
 unfold swapL
 have e1:(A++x :: (M++y :: Z)).getD A.length zeroI=x:=by
  rw [List.getD,List.getElem?_append_right (Nat.le_refl _),Nat.sub_self];rfl
 have e2:(A++x :: (M++y :: Z)).getD (A.length+1+M.length) zeroI=y:=by
  rw [List.getD,List.getElem?_append_right (by omega),show A.length+1+M.length - A.length=M.length+1 by omega,List.getElem?_cons_succ,List.getElem?_append_right (Nat.le_refl _),Nat.sub_self];rfl
 rw [e1,e2,List.set_append_right _ _ (Nat.le_refl _),Nat.sub_self,List.set_cons_zero,List.set_append_right _ _ (by omega),show A.length+1+M.length - A.length=M.length+1 by omega,List.set_cons_succ,List.set_append_right _ _ (Nat.le_refl _),Nat.sub_self,List.set_cons_zero]
theorem swapN_mid (k:Nat):∀ (A U M V Z:List ItemV),U.length=k → V.length=k → swapN (A++(U++(M++(V++Z)))) A.length (A.length+k+M.length) k=A++(V++(M++(U++Z))):=by
 induction k with
 | zero =>
   intro A U M V Z hU hV;obtain rfl:=List.eq_nil_of_length_eq_zero hU;obtain rfl:=List.eq_nil_of_length_eq_zero hV;rfl
 | succ k ih =>
   intro A U M V Z hU hV
   obtain ⟨u,x,rfl⟩:∃ u x,U=u++[x]:=by
    rcases List.eq_nil_or_concat U with h | ⟨u,x,h⟩
    ·rw [h] at hU;cases hU
    ·exact ⟨u,x,by rw [h,List.concat_eq_append]⟩
   obtain ⟨v,y,rfl⟩:∃ v y,V=v++[y]:=by
    rcases List.eq_nil_or_concat V with h | ⟨u,x,h⟩
    ·rw [h] at hV;cases hV
    ·exact ⟨u,x,by rw [h,List.concat_eq_append]⟩
   have hu:u.length=k:=by simpa using hU
   have hv:v.length=k:=by simpa using hV
   have h:=ih A u (x :: M) v (y :: Z) hu hv;rw [swapN];have e1:A++(u++[x]++(M++(v++[y]++Z)))=A++(u++(x :: M++(v++y :: Z))):=by simp
   have e2:A.length+(k+1)+M.length=A.length+k+(x :: M).length:=by rw [List.length_cons];omega
   rw [e1,e2,h];have e3:A++(v++(x :: M++(u++y :: Z)))=(A++v)++x :: ((M++u)++y :: Z):=by simp
   have e4:A.length+k=(A++v).length:=by rw [List.length_append,hv]
   have e5:A.length+k+(x :: M).length+k=(A++v).length+1+(M++u).length:=by rw [List.length_append,List.length_append,List.length_cons,hv,hu];omega
   rw [e3,e5,e4,swapL_mid];simp
def seg (l:List ItemV) (a b:Nat):List ItemV:=(l.drop a).take (b - a)
theorem seg_length (l:List ItemV) (a b:Nat) (h:b≤l.length):(seg l a b).length=b - a:=by
 unfold seg;rw [List.length_take,List.length_drop];omega
theorem seg_app (l:List ItemV) {a m b:Nat} (h1:a≤m) (h2:m≤b):seg l a b=seg l a m++seg l m b:=by
 unfold seg;rw [show b - a=(m - a)+(b - m) by omega,List.take_add,List.drop_drop,show a+(m - a)=m by omega]
theorem seg_self (l:List ItemV) (a:Nat):seg l a a=[]:=by unfold seg;rw [Nat.sub_self,List.take_zero]
def putS (l:List ItemV) (a b:Nat) (x:List ItemV):List ItemV:=l.take a++(x++l.drop b)
theorem putS_length (l:List ItemV) (a b:Nat) (x:List ItemV) (h1:a≤b) (h:b≤l.length) (hx:x.length=b - a):(putS l a b x).length=l.length:=by
 unfold putS;rw [List.length_append,List.length_append,List.length_take,List.length_drop,hx];omega
theorem putS_self (l:List ItemV) (a b:Nat) (h:a≤b):putS l a b (seg l a b)=l:=by
 unfold putS seg
 have:(l.drop a).take (b - a)++l.drop b=l.drop a:=by
  have e:l.drop b=(l.drop a).drop (b - a):=by rw [List.drop_drop,show a+(b - a)=b by omega]
  rw [e,List.take_append_drop]
 rw [this,List.take_append_drop]
theorem seg_putS (l:List ItemV) (a b:Nat) (x:List ItemV) (h:a≤l.length) (hx:x.length=b - a):seg (putS l a b x) a b=x:=by
 unfold putS seg
 have e:(l.take a++(x++l.drop b)).drop a=x++l.drop b:=by
  rw [List.drop_append_of_le_length (by rw [List.length_take];omega),List.drop_of_length_le (by rw [List.length_take];omega),List.nil_append]
 rw [e,← hx,List.take_append_of_le_length (Nat.le_refl _),List.take_of_length_le (Nat.le_refl _)]
theorem putS_putS (l:List ItemV) (a b:Nat) (x y:List ItemV) (h:a≤b) (hb:b≤l.length) (hx:x.length=b - a):putS (putS l a b x) a b y=putS l a b y:=by
 unfold putS;have e1:(l.take a++(x++l.drop b)).take a=l.take a:=by rw [List.take_append_of_le_length (by rw [List.length_take];omega),List.take_of_length_le (by rw [List.length_take];omega)]
 have e2:(l.take a++(x++l.drop b)).drop b=l.drop b:=by
  rw [← List.append_assoc,List.drop_append_of_le_length (by rw [List.length_append,List.length_take,hx];omega),List.drop_of_length_le (by rw [List.length_append,List.length_take,hx];omega),List.nil_append]
 rw [e1,e2]
theorem putS_left (l:List ItemV) {a m b:Nat} (x:List ItemV) (h1:a≤m) (h2:m≤b) (hb:b≤l.length):putS l a m x=putS l a b (x++seg l m b):=by
 unfold putS seg
 have:(l.drop m).take (b - m)++l.drop b=l.drop m:=by
  have e:l.drop b=(l.drop m).drop (b - m):=by rw [List.drop_drop,show m+(b - m)=b by omega]
  rw [e,List.take_append_drop]
 rw [List.append_assoc,this]
theorem putS_right (l:List ItemV) {a m b:Nat} (x:List ItemV) (h1:a≤m) (h2:m≤b) (hb:b≤l.length):putS l m b x=putS l a b (seg l a m++x):=by
 unfold putS seg;rw [show l.take m=l.take a++(l.drop a).take (m - a) by rw [← List.take_add];congr 1;omega]
 simp
theorem seg_put_ahead (l:List ItemV) {a b c d:Nat} (x:List ItemV) (h1:d≤a) (h2:a≤l.length):seg (putS l a b x) c d=seg l c d:=by
 unfold putS seg
 by_cases hc:c≤d
 ·rw [List.drop_append_of_le_length (by rw [List.length_take];omega),List.take_append_of_le_length (by rw [List.length_drop,List.length_take];omega),List.drop_take,List.take_take,Nat.min_eq_left (by omega)]
 ·rw [show d - c=0 by omega,List.take_zero,List.take_zero]
theorem seg_put_behind (l:List ItemV) {a b c d:Nat} (x:List ItemV) (h0:a≤b) (h1:b≤c) (h2:b≤l.length) (hx:x.length=b - a):seg (putS l a b x) c d=seg l c d:=by
 unfold putS seg;rw [← List.append_assoc,List.drop_append,List.drop_of_length_le (by rw [List.length_append,List.length_take,hx];omega),List.nil_append,List.length_append,List.length_take,hx,List.drop_drop,show b+(c - (min a l.length+(b - a)))=c by omega]
theorem sortI_self {l:List ItemV} (h:InOrd l):sortI l=l:=(sort_is h fun c => rfl).symm
theorem inord_sub {l m:List ItemV} (h:InOrd l) (hs:m.Sublist l):InOrd m:=List.Pairwise.sublist hs h
theorem alike_iff {a b:ItemV}:alike a b=true ↔ a.key=b.key∧a.seq=b.seq:=by
 unfold alike;rw [Bool.and_eq_true,beq_iff_eq,beq_iff_eq]
theorem merge_cut {A1 A2 B1 B2:List ItemV} (hA:InOrd (A1++A2)) (hB:InOrd (B1++B2)) (h1:∀ x ∈ B1,∀ y ∈ A2,lessI x y=true) (h2:∀ x ∈ A1,∀ y ∈ B2,lessI y x=false) :
 sortI (A1++B1)++sortI (A2++B2)=sortI (A1++A2++(B1++B2)):=by
 have mem1:∀ x ∈ sortI (A1++B1),x ∈ A1 ∨ x ∈ B1:=fun x hx => List.mem_append.1 ((sortI_perm _).mem_iff.1 hx)
 have mem2:∀ x ∈ sortI (A2++B2),x ∈ A2 ∨ x ∈ B2:=fun x hx => List.mem_append.1 ((sortI_perm _).mem_iff.1 hx)
 refine sort_is (List.pairwise_append.2 ⟨sortI_ord _,sortI_ord _,fun x hx y hy => ?_⟩) fun c => ?_
 ·rcases mem1 x hx with hx | hx<;>rcases mem2 y hy with hy | hy
  ·exact (List.pairwise_append.1 hA).2.2 x hx y hy
  ·exact h2 x hx y hy
  ·exact lessI_asym (h1 x hx y hy)
  ·exact (List.pairwise_append.1 hB).2.2 x hx y hy
 ·simp only [List.filter_append,sortI_alike,List.append_assoc]
  congr 1
  have:B1.filter (alike c)=[] ∨ A2.filter (alike c)=[]:=by
   by_cases e:B1.filter (alike c)=[]
   ·exact .inl e
   ·refine .inr (List.filter_eq_nil_iff.2 fun y hy hcy => ?_)
    obtain ⟨x,hx⟩:=List.exists_mem_of_ne_nil _ e;obtain ⟨hx,hcx⟩:=List.mem_filter.1 hx;have h3:=h1 x hx y hy;rw [alike_iff] at hcx hcy;rw [lessI_iff] at h3;rcases h3 with h3 | ⟨_,h3⟩
    ·exact ltB_ne h3 (by rw [← hcx.1,← hcy.1])
    ·omega
  rcases this with e | e
  ·rw [e,List.nil_append,List.nil_append]
  ·rw [e,List.nil_append,List.nil_append]
theorem putS_get (l:List ItemV) {a b i:Nat} (x:List ItemV) (ha:a≤l.length) (hi:i < x.length):(putS l a b x).getD (a+i) zeroI=x.getD i zeroI:=by
 unfold putS;rw [List.getD,List.getElem?_append_right (by rw [List.length_take];omega),List.length_take,show a+i - min a l.length=i by omega,List.getElem?_append_left hi]
 rfl
theorem putS_set (l:List ItemV) {a b i:Nat} (x:List ItemV) (v:ItemV) (ha:a≤l.length) (hi:i < x.length):(putS l a b x).set (a+i) v=putS l a b (x.set i v):=by
 unfold putS;rw [List.set_append_right _ _ (by rw [List.length_take];omega),List.length_take,show a+i - min a l.length=i by omega,List.set_append_left _ _ hi]
theorem swapL_putS (l:List ItemV) {a b i j:Nat} (x:List ItemV) (ha:a≤l.length) (hi:i < x.length) (hj:j < x.length):swapL (putS l a b x) (a+i) (a+j)=putS l a b (swapL x i j):=by
 unfold swapL;rw [putS_get l x ha hi,putS_get l x ha hj,putS_set l x _ ha hi,putS_set l _ _ ha (by rw [List.length_set];exact hj)]
theorem midI_swapL {l:List ItemV} {i k:Nat} (hi:i < l.length) (hk:k+1≤i):swapL (midI l i (k+1)) (k+1) k=midI l i k:=midI_swap hi hk
def RotJ (L T:List ItemV) (m i j:Nat):Prop:=∃ P U V Q,L=P++(U++(V++Q))∧T=P++(V++(U++Q))∧U.length=i∧V.length=j∧P.length+i=m
theorem RotJ.start (L:List ItemV) {a m b:Nat} (h1:a≤m) (h2:m≤b) (hb:b≤L.length):RotJ L (putS L a b (seg L m b++seg L a m)) m (m - a) (b - m):=by
 refine ⟨L.take a,seg L a m,seg L m b,L.drop b,?_,?_,?_,?_,?_⟩
 ·have:=putS_self L a b (by omega)
  rw [seg_app L h1 h2] at this;unfold putS at this;rw [List.append_assoc] at this;exact this.symm
 ·unfold putS
  rw [List.append_assoc]
 ·rw [seg_length _ _ _ (by omega)]
 ·rw [seg_length _ _ _ hb]
 ·rw [List.length_take];omega
theorem RotJ.big {L T:List ItemV} {m i j:Nat} (h:RotJ L T m i j) (hij:j < i):RotJ (swapN L (m - i) m j) T m (i - j) j:=by
 obtain ⟨P,U,V,Q,rfl,rfl,hU,hV,hP⟩:=h;have hs:=swapN_mid j P (U.take j) (U.drop j) V Q (by rw [List.length_take];omega) hV
 have e1:U.take j++(U.drop j++(V++Q))=U++(V++Q):=by rw [← List.append_assoc,List.take_append_drop]
 rw [e1,List.length_drop,show P.length+j+(U.length - j)=m by omega,show P.length=m - i by omega] at hs
 rw [hs];exact ⟨P++V,U.drop j,U.take j,Q,by simp,by rw [List.append_assoc];congr 2;rw [← List.append_assoc,List.take_append_drop],by rw [List.length_drop];omega,by rw [List.length_take];omega,by rw [List.length_append];omega⟩
theorem RotJ.small {L T:List ItemV} {m i j:Nat} (h:RotJ L T m i j) (hij:i < j):RotJ (swapN L (m - i) (m+j - i) i) T m i (j - i):=by
 obtain ⟨P,U,V,Q,rfl,rfl,hU,hV,hP⟩:=h;have hs:=swapN_mid i P U (V.take (j - i)) (V.drop (j - i)) Q hU (by rw [List.length_drop];omega)
 have e1:V.take (j - i)++(V.drop (j - i)++Q)=V++Q:=by rw [← List.append_assoc,List.take_append_drop]
 rw [e1,List.length_take,show P.length+i+min (j - i) V.length=m+j - i by omega,show P.length=m - i by omega] at hs
 rw [hs];exact ⟨P,V.drop (j - i),V.take (j - i),U++Q,rfl,by congr 1;rw [← List.append_assoc (V.take (j - i)),List.take_append_drop],by rw [List.length_drop];omega,by rw [List.length_take];omega,hP⟩
theorem RotJ.done {L T:List ItemV} {m i:Nat} (h:RotJ L T m i i):swapN L (m - i) m i=T:=by
 obtain ⟨P,U,V,Q,rfl,rfl,hU,hV,hP⟩:=h;have hs:=swapN_mid i P U [] V Q hU hV;rw [List.length_nil,show P.length+i+0=m by omega,show P.length=m - i by omega] at hs
 exact hs
end Go.Proofs.Ytpdpgjilalojjaa.Itm
end
section
namespace Go.Proofs.Ytpdpgjilalojjaa.Itm
open Tre
set_option linter.unusedVariables false
def bubU (l:List ItemV) (a:Nat):Nat → List ItemV
 | 0 => l
 | t+1 => swapL (bubU l a t) (a+t) (a+t+1)
def bubD (l:List ItemV) (m:Nat):Nat → List ItemV
 | 0 => l
 | t+1 => swapL (bubD l m t) (m - t) (m - t - 1)
theorem swapL_next (A:List ItemV) (x y:ItemV) (Z:List ItemV):swapL (A++x :: y :: Z) A.length (A.length+1)=A++y :: x :: Z:=swapL_mid A x [] y Z
theorem swapL_prev (A:List ItemV) (x y:ItemV) (Z:List ItemV):swapL (A++x :: y :: Z) (A.length+1) A.length=A++y :: x :: Z:=by
 have h:=swap_app A x y Z;unfold swapL
 have e1:(A++x :: y :: Z).getD A.length zeroI=x:=by
  rw [List.getD,List.getElem?_append_right (Nat.le_refl _),Nat.sub_self];rfl
 have e2:(A++x :: y :: Z).getD (A.length+1) zeroI=y:=by
  rw [List.getD,List.getElem?_append_right (by omega),show A.length+1 - A.length=1 by omega];rfl
 rw [e1,e2];exact h
theorem bubU_mid (t:Nat):∀ (A:List ItemV) (x:ItemV) (R Z:List ItemV),R.length=t → bubU (A++x :: (R++Z)) A.length t=A++(R++x :: Z):=by
 induction t with
 | zero =>
   intro A x R Z hR;obtain rfl:=List.eq_nil_of_length_eq_zero hR;rfl
 | succ t ih =>
   intro A x R Z hR
   obtain ⟨u,r,rfl⟩:∃ u r,R=u++[r]:=by
    rcases List.eq_nil_or_concat R with h | ⟨u,r,h⟩
    ·rw [h] at hR;cases hR
    ·exact ⟨u,r,by rw [h,List.concat_eq_append]⟩
   have hu:u.length=t:=by simpa using hR
   have h:=ih A x u (r :: Z) hu;rw [bubU];have e1:A++x :: (u++[r]++Z)=A++x :: (u++r :: Z):=by simp
   rw [e1,h];have e2:A++(u++x :: r :: Z)=(A++u)++x :: r :: Z:=by simp
   have e3:A.length+t=(A++u).length:=by rw [List.length_append,hu]
   rw [e2,e3,swapL_next];simp
theorem bubD_mid (t:Nat):∀ (A:List ItemV) (y:ItemV) (R Z:List ItemV),R.length=t → bubD (A++(R++y :: Z)) (A.length+t) t=A++y :: (R++Z):=by
 induction t with
 | zero =>
   intro A y R Z hR;obtain rfl:=List.eq_nil_of_length_eq_zero hR;rfl
 | succ t ih =>
   intro A y R Z hR
   cases R with
   | nil => cases hR
   | cons r u =>
     have hu:u.length=t:=by simpa using hR
     have h:=ih (A++[r]) y u Z hu;have e1:A++(r :: u++y :: Z)=A++[r]++(u++y :: Z):=by simp
     have e2:A.length+(t+1)=(A++[r]).length+t:=by simp;omega
     rw [bubD,e1,e2,h];have e3:A++[r]++y :: (u++Z)=A++r :: y :: (u++Z):=by simp
     have e4:(A++[r]).length+t - t=A.length+1:=by simp
     rw [e3,e4,show A.length+1 - 1=A.length by omega,swapL_prev]
     simp
theorem seg_cons (l:List ItemV) {a b:Nat} (h1:a < b) (h2:b≤l.length):seg l a b=l.getD a zeroI :: seg l (a+1) b:=by
 have e:seg l a (a+1)=[l.getD a zeroI]:=by
  unfold seg;rw [show a+1 - a=1 by omega,List.getD,List.getElem?_eq_getElem (by omega),List.drop_eq_getElem_cons (by omega)]
  rfl
 rw [seg_app l (show a≤a+1 by omega) (show a+1≤b by omega),e]
 rfl
theorem seg_snoc (l:List ItemV) {a b:Nat} (h1:a < b) (h2:b≤l.length):seg l a b=seg l a (b - 1)++[l.getD (b - 1) zeroI]:=by
 rw [seg_app l (show a≤b - 1 by omega) (show b - 1≤b by omega),seg_cons l (show b - 1 < b by omega) h2,show b - 1+1=b by omega,seg_self]
theorem list_seg (l:List ItemV) {a b:Nat} (h1:a≤b):l=l.take a++(seg l a b++l.drop b):=(putS_self l a b h1).symm
theorem less_le {a b c:ItemV} (h:lessI a b=true) (h2:lessI c b=false):lessI a c=true:=by
 by_cases e:lessI a c=true
 ·exact e
 ·have:=leI_trans (a:=b) (b:=c) (c:=a) h2 (by simpa using e)
  rw [h] at this;cases this
theorem le_less {a b c:ItemV} (h:lessI b a=false) (h2:lessI b c=true):lessI a c=true:=by
 by_cases e:lessI a c=true
 ·exact e
 ·have:=leI_trans (a:=c) (b:=a) (c:=b) (by simpa using e) h
  rw [h2] at this;cases this
theorem seg_le_last {l:List ItemV} {a b:Nat} (ho:InOrd (seg l a b)) (h1:a < b) (h2:b≤l.length):∀ x ∈ seg l a b,lessI (l.getD (b - 1) zeroI) x=false:=by
 intro x hx;rw [seg_snoc l h1 h2] at hx ho;rcases List.mem_append.1 hx with hx | hx
 ·exact (List.pairwise_append.1 ho).2.2 x hx _ (by simp)
 ·rw [List.mem_singleton.1 hx];exact alike_not_less (alike_refl _)
theorem seg_first_le {l:List ItemV} {a b:Nat} (ho:InOrd (seg l a b)) (h1:a < b) (h2:b≤l.length):∀ x ∈ seg l a b,lessI x (l.getD a zeroI)=false:=by
 intro x hx;rw [seg_cons l h1 h2] at hx ho;rcases List.mem_cons.1 hx with rfl | hx
 ·exact alike_not_less (alike_refl _)
 ·exact (List.pairwise_cons.1 ho).1 x hx
theorem inord_part {l:List ItemV} {a b c d:Nat} (ho:InOrd (seg l a b)) (h1:a≤c) (h2:c≤d) (h3:d≤b):InOrd (seg l c d):=by
 have:(seg l c d).Sublist (seg l a b):=by
  rw [seg_app l h1 (show c≤b by omega),seg_app l h2 h3]
  exact (List.sublist_append_left _ _).trans (List.sublist_append_right _ _)
 exact inord_sub ho this
theorem sym_cut {l:List ItemV} {a m b s e:Nat} (h1:a≤s) (h2:s≤m) (h3:m≤e) (h4:e≤b) (hb:b≤l.length) (ho1:InOrd (seg l a m)) (ho2:InOrd (seg l m b))
 (hx:s=m ∨ e=m ∨ lessI (l.getD (e - 1) zeroI) (l.getD s zeroI)=true) (hy:s=a ∨ e=b ∨ lessI (l.getD e zeroI) (l.getD (s - 1) zeroI)=false) :
 sortI (seg l a s++seg l m e)++sortI (seg l s m++seg l e b)=sortI (seg l a b):=by
 rw [seg_app l (show a≤m by omega) (show m≤b by omega),seg_app l h1 h2,seg_app l h3 h4]
 have p1:=ho1;have p2:=ho2;rw [seg_app l h1 h2] at p1;rw [seg_app l h3 h4] at p2;refine merge_cut p1 p2 (fun x hxm y hym => ?_) (fun x hxm y hym => ?_)
 ·rcases hx with hx | hx | hx
  ·subst hx;rw [seg_self] at hym;cases hym
  ·subst hx;rw [seg_self] at hxm;cases hxm
  ·have hne1:m < e:=by
    rcases Nat.lt_or_ge m e with h | h
    ·exact h
    ·rw [show e=m by omega,seg_self] at hxm;cases hxm
   have hne2:s < m:=by
    rcases Nat.lt_or_ge s m with h | h
    ·exact h
    ·rw [show s=m by omega,seg_self] at hym;cases hym
   have g1:=seg_le_last (inord_part ho2 (Nat.le_refl _) h3 h4) hne1 (by omega) x hxm
   have g2:=seg_first_le (inord_part ho1 h1 h2 (Nat.le_refl _)) hne2 (by omega) y hym
   exact le_less g1 (less_le hx g2)
 ·rcases hy with hy | hy | hy
  ·subst hy;rw [seg_self] at hxm;cases hxm
  ·subst hy;rw [seg_self] at hym;cases hym
  ·have hne1:a < s:=by
    rcases Nat.lt_or_ge a s with h | h
    ·exact h
    ·rw [show s=a by omega,seg_self] at hxm;cases hxm
   have hne2:e < b:=by
    rcases Nat.lt_or_ge e b with h | h
    ·exact h
    ·rw [show e=b by omega,seg_self] at hym;cases hym
   have g1:=seg_le_last (inord_part ho1 (Nat.le_refl _) h1 h2) hne1 (by omega) x hxm
   have g2:=seg_first_le (inord_part ho2 h3 h4 (Nat.le_refl _)) hne2 hb y hym;exact leI_trans g1 (leI_trans hy g2)
theorem ins_left {l:List ItemV} {a m b i:Nat} (hm:m=a+1) (hb:b≤l.length) (ho:InOrd (seg l m b)) (hi:m≤i) (hib:i≤b)
 (h1:i=m ∨ lessI (l.getD (i - 1) zeroI) (l.getD a zeroI)=true) (h2:i=b ∨ lessI (l.getD i zeroI) (l.getD a zeroI)=false):bubU l a (i - 1 - a)=putS l a b (sortI (seg l a b)):=by
 have hone:seg l a m=[l.getD a zeroI]:=by rw [hm,seg_cons l (by omega) (by omega),seg_self]
 have hc:=sym_cut (l:=l) (a:=a) (m:=m) (b:=b) (s:=a) (e:=i) (Nat.le_refl _) (by omega) hi hib hb (by rw [hone];exact List.pairwise_singleton _ _) ho (.inr (by rcases h1 with h | h;exact .inl h;exact .inr h)) (.inl rfl)
 rw [seg_self,List.nil_append,hone,sortI_self (inord_part ho (Nat.le_refl _) hi hib)] at hc
 rw [sortI_self (l:=[l.getD a zeroI]++seg l i b) (by
  refine List.pairwise_cons.2 ⟨fun y hy => ?_,inord_part ho hi hib (Nat.le_refl _)⟩
  rcases h2 with h2 | h2
  ·subst h2;rw [seg_self] at hy;cases hy
  ·have hne:i < b:=by
    rcases Nat.lt_or_ge i b with h | h
    ·exact h
    ·rw [show i=b by omega,seg_self] at hy;cases hy
   exact leI_trans h2 (seg_first_le (inord_part ho hi hib (Nat.le_refl _)) hne hb y hy))] at hc
 rw [← hc]
 have e:l=l.take a++l.getD a zeroI :: (seg l m i++(seg l i b++l.drop b)):=by
  have:=list_seg l (show a≤b by omega)
  rw [seg_cons l (show a < b by omega) hb,← hm,seg_app l hi hib] at this
  simpa using this
 have hA:(l.take a).length=a:=by rw [List.length_take];omega
 have:=bubU_mid (i - 1 - a) (l.take a) (l.getD a zeroI) (seg l m i) (seg l i b++l.drop b) (by rw [seg_length _ _ _ (by omega)];omega)
 rw [← e,hA] at this;rw [this];unfold putS;simp
theorem ins_right {l:List ItemV} {a m b i:Nat} (hm:b=m+1) (hb:b≤l.length) (ho:InOrd (seg l a m)) (hi:a≤i) (him:i≤m)
 (h1:i=a ∨ lessI (l.getD m zeroI) (l.getD (i - 1) zeroI)=false) (h2:i=m ∨ lessI (l.getD m zeroI) (l.getD i zeroI)=true):bubD l m (m - i)=putS l a b (sortI (seg l a b)):=by
 have hone:seg l m b=[l.getD m zeroI]:=by rw [hm,seg_cons l (by omega) (by omega),seg_self]
 have hc:=sym_cut (l:=l) (a:=a) (m:=m) (b:=b) (s:=i) (e:=b) hi him (by omega) (Nat.le_refl _) hb ho (by rw [hone];exact List.pairwise_singleton _ _) (by rcases h2 with h | h;exact .inl h;exact .inr (.inr (by rw [show b - 1=m by omega];exact h))) (.inr (.inl rfl))
 rw [seg_self,List.append_nil,hone,sortI_self (inord_part ho hi him (Nat.le_refl _))] at hc
 rw [sortI_self (l:=seg l a i++[l.getD m zeroI]) (by
  refine List.pairwise_append.2 ⟨inord_part ho (Nat.le_refl _) hi him,List.pairwise_singleton _ _,fun x hx y hy => ?_⟩
  rw [List.mem_singleton.1 hy];rcases h1 with h1 | h1
  ·subst h1;rw [seg_self] at hx;cases hx
  ·have hne:a < i:=by
    rcases Nat.lt_or_ge a i with h | h
    ·exact h
    ·rw [show i=a by omega,seg_self] at hx;cases hx
   exact leI_trans (seg_le_last (inord_part ho (Nat.le_refl _) hi him) hne (by omega) x hx) h1)] at hc
 rw [← hc]
 have e:l=l.take a++seg l a i++(seg l i m++l.getD m zeroI :: l.drop b):=by
  have:=list_seg l (show a≤b by omega)
  rw [seg_app l (show a≤m by omega) (show m≤b by omega),hone,seg_app l hi him] at this
  simpa using this
 have hA:(l.take a++seg l a i).length=i:=by rw [List.length_append,List.length_take,seg_length _ _ _ (by omega)];omega
 have:=bubD_mid (m - i) (l.take a++seg l a i) (l.getD m zeroI) (seg l i m) (l.drop b) (by rw [seg_length _ _ _ (by omega)])
 rw [← e,hA,show i+(m - i)=m by omega] at this
 rw [this];unfold putS;simp
theorem seg_take (l:List ItemV) {a s m:Nat} (h2:s≤m):seg l a s=(seg l a m).take (s - a):=by
 unfold seg;rw [List.take_take,Nat.min_eq_left (by omega)]
theorem seg_drop (l:List ItemV) {a s m:Nat} (h1:a≤s):seg l s m=(seg l a m).drop (s - a):=by
 unfold seg;rw [List.drop_take,List.drop_drop,show a+(s - a)=s by omega,show m - a - (s - a)=m - s by omega]
theorem seg_put1 (l:List ItemV) {a m b:Nat} {y1 y2:List ItemV} (h1:a≤m) (h2:m≤b) (hb:b≤l.length) (hy1:y1.length=m - a) (hy2:y2.length=b - m):seg (putS l a b (y1++y2)) a m=y1:=by
 rw [seg_take _ h2,seg_putS l a b _ (by omega) (by rw [List.length_append];omega),← hy1,List.take_append_of_le_length (Nat.le_refl _),List.take_of_length_le (Nat.le_refl _)]
theorem seg_put2 (l:List ItemV) {a m b:Nat} {y1 y2:List ItemV} (h1:a≤m) (h2:m≤b) (hb:b≤l.length) (hy1:y1.length=m - a) (hy2:y2.length=b - m):seg (putS l a b (y1++y2)) m b=y2:=by
 rw [seg_drop _ h1,seg_putS l a b _ (by omega) (by rw [List.length_append];omega),← hy1,List.drop_append_of_le_length (Nat.le_refl _),List.drop_of_length_le (Nat.le_refl _),List.nil_append]
theorem put_put1 (l:List ItemV) {a m b:Nat} {y1 y2:List ItemV} (z:List ItemV) (h1:a≤m) (h2:m≤b) (hb:b≤l.length) (hy1:y1.length=m - a) (hy2:y2.length=b - m):putS (putS l a b (y1++y2)) a m z=putS l a b (z++y2):=by
 have hl:(putS l a b (y1++y2)).length=l.length:=putS_length l a b _ (by omega) hb (by rw [List.length_append];omega)
 rw [putS_left _ z h1 h2 (by rw [hl];exact hb),seg_put2 l h1 h2 hb hy1 hy2,putS_putS l a b _ _ (by omega) hb (by rw [List.length_append];omega)]
theorem put_put2 (l:List ItemV) {a m b:Nat} {y1 y2:List ItemV} (z:List ItemV) (h1:a≤m) (h2:m≤b) (hb:b≤l.length) (hy1:y1.length=m - a) (hy2:y2.length=b - m):putS (putS l a b (y1++y2)) m b z=putS l a b (y1++z):=by
 have hl:(putS l a b (y1++y2)).length=l.length:=putS_length l a b _ (by omega) hb (by rw [List.length_append];omega)
 rw [putS_right _ z h1 h2 (by rw [hl];exact hb),seg_put1 l h1 h2 hb hy1 hy2,putS_putS l a b _ _ (by omega) hb (by rw [List.length_append];omega)]
theorem turned (l:List ItemV) {a m b s e:Nat} (h1:a≤s) (h2:s≤m) (h3:m≤e) (h4:e≤b) (hb:b≤l.length) :
 putS l s e (seg l m e++seg l s m)=putS l a b ((seg l a s++seg l m e)++(seg l s m++seg l e b)):=by
 rw [putS_left l _ (show s≤e by omega) h4 hb,putS_right l _ h1 (show s≤b by omega) hb]
 simp only [List.append_assoc]
theorem turned_none (l:List ItemV) {m s e:Nat} (h2:s≤m) (h3:m≤e) (h:s=m ∨ e=m):putS l s e (seg l m e++seg l s m)=l:=by
 rcases h with h | h
 ·subst h;rw [seg_self,List.append_nil,putS_self l _ _ h3]
 ·subst h;rw [seg_self,List.nil_append,putS_self l _ _ h2]
end Go.Proofs.Ytpdpgjilalojjaa.Itm
end
section
namespace Go.Proofs.Ytpdpgjilalojjaa.Itm
open Tre
set_option linter.unusedVariables false
def Pc (l t:List ItemV) (a b:Nat):Prop:=seg l a b=sortI (seg t a b)
inductive Bl (l t:List ItemV) (c n:Nat):Nat → Prop
 | done (a:Nat):n≤a → Bl l t c n a
 | step (a:Nat):a < n → Pc l t a (min (a+c) n) → Bl l t c n (a+c) → Bl l t c n a
theorem Bl.congr {l l' t:List ItemV} {c n a:Nat} (h:Bl l t c n a) (he:∀ x y,a≤x → seg l' x y=seg l x y):Bl l' t c n a:=by
 induction h with
 | done a h => exact .done a h
 | step a h1 h2 _ ih => exact .step a h1 (by unfold Pc at h2 ⊢;rw [he a _ (Nat.le_refl _)];exact h2) (ih fun x y hx => he x y (by omega))
def Pf (l t:List ItemV) (c n a:Nat):Prop:=∀ l':List ItemV,(∀ x y,y≤a → seg l' x y=seg l x y) → Bl l' t c n a → Bl l' t c n 0
theorem Pf.start (l t:List ItemV) (c n:Nat):Pf l t c n 0:=fun l' _ h => h
theorem Pf.step {l t x:List ItemV} {c n a b:Nat} (h:Pf l t c n a) (hb:b=a+c) (hc:0 < c) (hbn:b≤n) (hl:l.length=n) (hx:x.length=b - a) (hs:x=sortI (seg t a b)):Pf (putS l a b x) t c n b:=by
 intro l' he h2;refine h l' (fun u v hv => ?_) (.step a (by omega) ?_ ?_)
 ·rw [he u v (by omega),seg_put_ahead l x hv (by omega)]
 ·rw [show min (a+c) n=b by omega]
  unfold Pc;rw [he a b (Nat.le_refl _),seg_putS l a b x (by omega) hx,hs]
 ·rw [← hb];exact h2
theorem Pf.done {l t:List ItemV} {c n a:Nat} (h:Pf l t c n a) (h2:Bl l t c n a):Bl l t c n 0:=h l (fun _ _ _ => rfl) h2
theorem Pf.last {l t x:List ItemV} {c n a:Nat} (h:Pf l t c n a) (ha:a≤n) (hc:n≤a+c) (hl:l.length=n) (hx:x.length=n - a) (hs:x=sortI (seg t a n)):Bl (putS l a n x) t c n 0:=by
 refine h _ (fun u v hv => seg_put_ahead l x hv (by omega)) ?_
 by_cases h0:a < n
 ·refine .step a h0 ?_ (.done _ (by omega))
  rw [show min (a+c) n=n by omega]
  unfold Pc;rw [seg_putS l a n x (by omega) hx,hs]
 ·exact .done a (by omega)
theorem seg_all (l:List ItemV):seg l 0 l.length=l:=by unfold seg;rw [List.drop_zero,Nat.sub_zero,List.take_of_length_le (Nat.le_refl _)]
theorem Bl.all {l t:List ItemV} {c n:Nat} (h:Bl l t c n 0) (hc:n≤c) (hl:l.length=n) (ht:t.length=n):l=sortI t:=by
 cases h with
 | done _ h =>
   obtain rfl:=List.eq_nil_of_length_eq_zero (show l.length=0 by omega)
   obtain rfl:=List.eq_nil_of_length_eq_zero (show t.length=0 by omega)
   rfl
 | step _ h1 h2 _ =>
   rw [show min (0+c) n=n by omega] at h2
   unfold Pc at h2;rw [← hl,seg_all,hl,← ht,seg_all] at h2;exact h2
theorem sortI_two (x y:List ItemV):sortI (sortI x++sortI y)=sortI (x++y):=
 sort_is (sortI_ord _) fun c => by rw [sortI_alike,List.filter_append,sortI_alike,sortI_alike,← List.filter_append]
theorem pc_two {l t:List ItemV} {a m b:Nat} (h1:a≤m) (h2:m≤b) (p1:Pc l t a m) (p2:Pc l t m b):sortI (seg l a b)=sortI (seg t a b):=by
 unfold Pc at p1 p2;rw [seg_app l h1 h2,p1,p2,sortI_two,← seg_app t h1 h2]
theorem pc_ord {l t:List ItemV} {a b:Nat} (h:Pc l t a b):InOrd (seg l a b):=by unfold Pc at h;rw [h];exact sortI_ord _
theorem Bl.two {l t:List ItemV} {c n a:Nat} (h:Bl l t c n a) (hc:0 < c) (hn:a+2 * c≤n):Pc l t a (a+c)∧Pc l t (a+c) (a+2 * c)∧Bl l t c n (a+2 * c):=by
 cases h with
 | done _ h => omega
 | step _ h1 h2 h3 =>
   rw [show min (a+c) n=a+c by omega] at h2
   cases h3 with
   | done _ h => omega
   | step _ g1 g2 g3 =>
     rw [show min (a+c+c) n=a+2 * c by omega] at g2
     rw [show a+c+c=a+2 * c by omega] at g3
     exact ⟨h2,g2,g3⟩
theorem Bl.tail {l t:List ItemV} {c n a:Nat} (h:Bl l t c n a) (hc:0 < c) (h0:a+c < n) (hn:n < a+2 * c):Pc l t a (a+c)∧Pc l t (a+c) n:=by
 cases h with
 | done _ h => omega
 | step _ h1 h2 h3 =>
   rw [show min (a+c) n=a+c by omega] at h2
   cases h3 with
   | done _ h => omega
   | step _ g1 g2 g3 =>
     rw [show min (a+c+c) n=n by omega] at g2
     exact ⟨h2,g2⟩
theorem Bl.one {l t:List ItemV} {c n a:Nat} (h:Bl l t c n a) (hn:n≤a+c):Bl l t (2 * c) n a:=by
 cases h with
 | done _ h => exact .done _ h
 | step _ h1 h2 h3 =>
   rw [show min (a+c) n=min (a+2 * c) n by omega] at h2
   exact .step _ h1 h2 (.done _ (by omega))
theorem seg_same {l t:List ItemV} {a:Nat} (h:l.drop a=t.drop a) (b:Nat):seg l a b=seg t a b:=by unfold seg;rw [h]
theorem putS_drop (l x:List ItemV) {a b:Nat} (h:a≤l.length) (hb:b≤l.length) (hab:a≤b) (hx:x.length=b - a):(putS l a b x).drop b=l.drop b:=by
 unfold putS;rw [← List.append_assoc,List.drop_append_of_le_length (by rw [List.length_append,List.length_take,hx];omega),List.drop_of_length_le (by rw [List.length_append,List.length_take,hx];omega),List.nil_append]
end Go.Proofs.Ytpdpgjilalojjaa.Itm
end
