/- Texts of this seat, merged: what the proof reaches. -/
import Derived.Test.YtphehianajckaaaHeapPlaysX12
import Derived.Test.YtphehianajckaaaHeapPlaysX3
import Derived.Lib.ParseIntB
import Derived.Lib.AtoiTie
import Derived.Lib.ItoaNum
import Derived.Lib.IndexLaws
import Derived.Lib.AtoiAll
import Derived.Lib.SlTrimSet
import Derived.Test.YtphehianajckaaaHeapPlaysX10
import Derived.Test.YtphehianajckaaaHeapPlaysX1
namespace Go.Proofs.Ytphehianajckaaa
namespace Attr
end Attr
namespace Fp
end Fp
namespace Hp
end Hp
namespace Itm
end Itm
namespace Mem
end Mem
namespace Path
end Path
namespace Rec
end Rec
namespace Tre
end Tre
end Go.Proofs.Ytphehianajckaaa
section
namespace Go.Proofs.Ytphehianajckaaa.Mem
open Go.Lib Fp Hp Path Rec Attr
set_option linter.unusedVariables false
structure MemV where
 path:List UInt8
 target:List UInt8
 kind:UInt8
 mode:Int
 uid:Int
 gid:Int
 time:Int
 body:List UInt8
deriving instance DecidableEq for MemV
end Go.Proofs.Ytphehianajckaaa.Mem
end
section
namespace Go.Proofs.Ytphehianajckaaa.Tre
open Mem
set_option linter.unusedVariables false
def ltB (a b:List UInt8):Bool:=Op.bytesLess a b
theorem ltB_nil (b:List UInt8):ltB b []=false:=by cases b<;>rfl
theorem ltB_cons (a b:UInt8) (x y:List UInt8):ltB (a :: x) (b :: y)=(decide (a < b) || (a == b && ltB x y)):=rfl
theorem ltB_irrefl (a:List UInt8):ltB a a=false:=by
 induction a with
 | nil => rfl
 | cons b l ih => rw [ltB_cons,ih];simp
theorem ltB_trans (a:List UInt8):∀ b c,ltB a b=true → ltB b c=true → ltB a c=true:=by
 induction a with
 | nil => intro b c h1 h2
          cases c with
          | nil => rw [ltB_nil] at h2;cases h2
          | cons c z => rfl
 | cons a x ih =>
   intro b c h1 h2
   cases b with
   | nil => rw [ltB_nil] at h1;cases h1
   | cons b y =>
     cases c with
     | nil => rw [ltB_nil] at h2;cases h2
     | cons c z =>
       rw [ltB_cons] at h1 h2 ⊢;simp only [Bool.or_eq_true,decide_eq_true_eq,Bool.and_eq_true,beq_iff_eq] at h1 h2 ⊢;rcases h1 with h1 | ⟨rfl,h1⟩
       ·rcases h2 with h2 | ⟨rfl,h2⟩
        ·exact .inl (UInt8.lt_trans h1 h2)
        ·exact .inl h1
       ·rcases h2 with h2 | ⟨rfl,h2⟩
        ·exact .inl h2
        ·exact .inr ⟨rfl,ih y z h1 h2⟩
theorem ltB_tri (a:List UInt8):∀ b,ltB a b=false → ltB b a=false → a=b:=by
 induction a with
 | nil =>
   intro b h1 h2
   cases b with
   | nil => rfl
   | cons b y => exact absurd h1 (by simp [ltB,Op.bytesLess])
 | cons a x ih =>
   intro b h1 h2
   cases b with
   | nil => exact absurd h2 (by simp [ltB,Op.bytesLess])
   | cons b y =>
     rw [ltB_cons] at h1 h2;simp only [Bool.or_eq_false_iff,decide_eq_false_iff_not] at h1 h2
     have hab:a=b:=by
      apply UInt8.le_antisymm
      ·exact UInt8.not_lt.1 h2.1
      ·exact UInt8.not_lt.1 h1.1
     subst hab;have e1:ltB x y=false:=by simpa using h1.2
     have e2:ltB y x=false:=by simpa using h2.2
     rw [ih y e1 e2]
theorem ltB_asym {a b:List UInt8} (h:ltB a b=true):ltB b a=false:=by
 cases hb:ltB b a with
 | false => rfl
 | true => have:=ltB_trans a b a h hb;rw [ltB_irrefl] at this;cases this
theorem ltB_ne {a b:List UInt8} (h:ltB a b=true):a≠b:=fun e => by subst e;rw [ltB_irrefl] at h;cases h
structure NodeV where
 path:List UInt8
 target:List UInt8
 leader:List UInt8
 kind:UInt8
 mode:Int
 uid:Int
 gid:Int
 time:Int
 body:List UInt8
deriving instance DecidableEq for NodeV
def zeroN:NodeV:=⟨[],[],[],0,0,0,0,0,[]⟩
end Go.Proofs.Ytphehianajckaaa.Tre
end
section
namespace Go.Proofs.Ytphehianajckaaa.Itm
open Tre
set_option linter.unusedVariables false
structure ItemV where
 key:List UInt8
 seq:Int
 data:List UInt8
deriving instance DecidableEq for ItemV
def zeroI:ItemV:=⟨[],0,[]⟩
def lessI (a b:ItemV):Bool:=ltB a.key b.key || (a.key == b.key && decide (a.seq < b.seq))
theorem lessI_iff {a b:ItemV}:lessI a b=true ↔ ltB a.key b.key=true ∨ (a.key=b.key∧a.seq < b.seq):=by
 unfold lessI;rw [Bool.or_eq_true,Bool.and_eq_true,beq_iff_eq,decide_eq_true_eq]
theorem lessI_asym {a b:ItemV} (h:lessI a b=true):lessI b a=false:=by
 rw [Bool.eq_false_iff];intro h2;rw [lessI_iff] at h h2;rcases h with h | ⟨h,h'⟩
 ·rcases h2 with h2 | ⟨h2,_⟩
  ·rw [ltB_asym h] at h2;cases h2
  ·exact ltB_ne h h2.symm
 ·rcases h2 with h2 | ⟨_,h2⟩
  ·exact ltB_ne h2 h.symm
  ·omega
theorem lessI_trans {a b c:ItemV} (h:lessI a b=true) (h2:lessI b c=true):lessI a c=true:=by
 rw [lessI_iff] at h h2 ⊢;rcases h with h | ⟨h,h'⟩
 ·rcases h2 with h2 | ⟨h2,_⟩
  ·exact .inl (ltB_trans _ _ _ h h2)
  ·rw [← h2];exact .inl h
 ·rcases h2 with h2 | ⟨h2,h2'⟩
  ·rw [h];exact .inl h2
  ·exact .inr ⟨by rw [h,h2],by omega⟩
theorem lessI_tri {a b:ItemV} (h:lessI a b=false) (h2:lessI b a=false):a.key=b.key∧a.seq=b.seq:=by
 have n1:¬ (ltB a.key b.key=true ∨ (a.key=b.key∧a.seq < b.seq)):=by rw [← lessI_iff,h];decide
 have n2:¬ (ltB b.key a.key=true ∨ (b.key=a.key∧b.seq < a.seq)):=by rw [← lessI_iff,h2];decide
 have e:a.key=b.key:=ltB_tri _ _ (by simpa using fun x => n1 (.inl x)) (by simpa using fun x => n2 (.inl x))
 refine ⟨e,?_⟩;have m1:¬ a.seq < b.seq:=fun x => n1 (.inr ⟨e,x⟩)
 have m2:¬ b.seq < a.seq:=fun x => n2 (.inr ⟨e.symm,x⟩)
 omega
theorem leI_trans {a b c:ItemV} (h:lessI b a=false) (h2:lessI c b=false):lessI c a=false:=by
 rw [Bool.eq_false_iff];intro h3
 have hab:lessI a b=true ∨ (a.key=b.key∧a.seq=b.seq):=by
  by_cases e:lessI a b=true
  ·exact .inl e
  ·exact .inr (lessI_tri (by simpa using e) h)
 rcases hab with hab | ⟨e1,e2⟩
 ·have:=lessI_trans h3 hab
  rw [h2] at this;cases this
 ·have:lessI c b=true:=by
   rw [lessI_iff] at h3 ⊢;rw [← e1,← e2];exact h3
  rw [h2] at this;cases this
def putI (x:ItemV):List ItemV → List ItemV
 | [] => [x]
 | y :: l => if lessI x y=true then x :: y :: l else y :: putI x l
def sortI (l:List ItemV):List ItemV:=l.foldl (fun s x => putI x s) []
theorem sortI_take_succ (l:List ItemV) (i:Nat) (h:i < l.length):sortI (l.take (i+1))=putI (l.getD i zeroI) (sortI (l.take i)):=by
 have e:l.take (i+1)=l.take i++[l.getD i zeroI]:=by
  rw [List.take_add_one,List.getD,List.getElem?_eq_getElem h];rfl
 unfold sortI;rw [e,List.foldl_append];rfl
theorem putI_perm (x:ItemV) (l:List ItemV):(putI x l).Perm (x :: l):=by
 induction l with
 | nil => exact .refl _
 | cons y l ih =>
   rw [putI]
   split
   ·exact .refl _
   ·exact (ih.cons y).trans (.swap x y l)
theorem sortI_perm (l:List ItemV):(sortI l).Perm l:=by
 have:∀ (l s:List ItemV),(l.foldl (fun s x => putI x s) s).Perm (s++l):=fun l => by
  induction l with
  | nil => intro s;rw [List.append_nil];exact .refl _
  | cons x l ih =>
    intro s;rw [List.foldl_cons];refine (ih _).trans ?_
    refine ((putI_perm x s).append_right l).trans ?_
    exact List.perm_middle.symm
 exact this l []
theorem sortI_length (l:List ItemV):(sortI l).length=l.length:=(sortI_perm l).length_eq
def InOrd (l:List ItemV):Prop:=l.Pairwise fun a b => lessI b a=false
theorem putI_ord {x:ItemV} {l:List ItemV} (h:InOrd l):InOrd (putI x l):=by
 induction l with
 | nil => exact List.pairwise_singleton _ _
 | cons y l ih =>
   have h':=List.pairwise_cons.1 h;rw [putI]
   split
   next hx =>
    refine List.pairwise_cons.2 ⟨fun z hz => ?_,h⟩
    rcases List.mem_cons.1 hz with rfl | hz
    ·exact lessI_asym hx
    ·exact leI_trans (lessI_asym hx) (h'.1 z hz)
   next hx =>
    refine List.pairwise_cons.2 ⟨fun z hz => ?_,ih h'.2⟩
    rcases List.mem_cons.1 ((putI_perm x l).mem_iff.1 hz) with rfl | hz
    ·simpa using hx
    ·exact h'.1 z hz
theorem sortI_ord (l:List ItemV):InOrd (sortI l):=by
 have:∀ (l s:List ItemV),InOrd s → InOrd (l.foldl (fun s x => putI x s) s):=fun l => by
  induction l with
  | nil => intro s h;exact h
  | cons x l ih => intro s h;exact ih _ (putI_ord h)
 exact this l [] List.Pairwise.nil
theorem putI_at {x:ItemV} {s:List ItemV}:∀ {k:Nat},InOrd s → k≤s.length → (∀ y ∈ s.drop k,lessI x y=true) → (k=0 ∨ lessI x (s.getD (k - 1) zeroI)=false) → putI x s=s.take k++x :: s.drop k:=by
 induction s with
 | nil => intro k _ _ _ _;simp [putI]
 | cons y l ih =>
   intro k hs hk hd he;have hs':=List.pairwise_cons.1 hs
   cases k with
   | zero =>
     rw [List.take_zero,List.drop_zero,List.nil_append,putI,if_pos (hd y (by simp))]
   | succ k =>
     have he':lessI x ((y :: l).getD k zeroI)=false:=by
      rcases he with he | he
      ·omega
      ·exact he
     have hxy:lessI x y=false:=by
      cases k with
      | zero => exact he'
      | succ k =>
        rw [List.length_cons] at hk
        have e:(y :: l).getD (k+1) zeroI=l[k]'(by omega):=by
         rw [List.getD,List.getElem?_cons_succ,List.getElem?_eq_getElem (by omega)];rfl
        rw [e] at he';exact leI_trans (hs'.1 _ (List.getElem_mem _)) he'
     rw [List.take_succ_cons,List.drop_succ_cons,putI,if_neg (by rw [hxy];decide),List.cons_append]
     congr 1
     refine ih hs'.2 (by simpa using hk) (by simpa using hd) ?_
     cases k with
     | zero => exact .inl rfl
     | succ k => exact .inr (by simpa [List.getD] using he')
def midI (l:List ItemV) (i k:Nat):List ItemV:=(sortI (l.take i)).take k++l.getD i zeroI :: ((sortI (l.take i)).drop k++l.drop (i+1))
theorem sortI_take_length {l:List ItemV} {i:Nat} (hi:i≤l.length):(sortI (l.take i)).length=i:=by
 rw [sortI_length,List.length_take];omega
def Past (l:List ItemV) (i k:Nat):Prop:=∀ y ∈ (sortI (l.take i)).drop k,lessI (l.getD i zeroI) y=true
theorem Past.start {l:List ItemV} {i:Nat} (hi:i < l.length):Past l i i:=by
 unfold Past;rw [List.drop_of_length_le (by rw [sortI_take_length (by omega)];omega)]
 intro y hy
 cases hy
theorem Past.step {l:List ItemV} {i k:Nat} (hi:i < l.length) (hk:k+1≤i) (h:Past l i (k+1)) (hlt:lessI (l.getD i zeroI) ((sortI (l.take i)).getD k zeroI)=true):Past l i k:=by
 have hl:=sortI_take_length (l:=l) (i:=i) (by omega)
 unfold Past;rw [List.drop_eq_getElem_cons (by omega)]
 intro y hy;rcases List.mem_cons.1 hy with rfl | hy
 ·have e:(sortI (l.take i)).getD k zeroI=(sortI (l.take i))[k]'(by omega):=by rw [List.getD,List.getElem?_eq_getElem (by omega)];rfl
  rw [e] at hlt;exact hlt
 ·exact h y hy
theorem Past.done {l:List ItemV} {i k:Nat} (hi:i < l.length) (hk:k≤i) (h:Past l i k) (he:k=0 ∨ lessI (l.getD i zeroI) ((sortI (l.take i)).getD (k - 1) zeroI)=false):midI l i k=sortI (l.take (i+1))++l.drop (i+1):=by
 have hl:=sortI_take_length (l:=l) (i:=i) (by omega)
 rw [sortI_take_succ l i hi,putI_at (sortI_ord _) (by omega) h he]
 unfold midI;simp
end Go.Proofs.Ytphehianajckaaa.Itm
end
section
namespace Go.Proofs.Ytphehianajckaaa.Hea
open Tre Itm
set_option linter.unusedVariables false
structure EntV where
 it:ItemV
 run:Int
deriving instance DecidableEq for EntV
def zeroV15:EntV:=⟨zeroI,0⟩
def lessE (a b:EntV):Bool:=lessI a.it b.it || (!lessI b.it a.it && decide (a.run < b.run))
theorem lessE_iff {a b:EntV}:lessE a b=true ↔ lessI a.it b.it=true ∨ (lessI b.it a.it=false∧a.run < b.run):=by
 unfold lessE;rw [Bool.or_eq_true,Bool.and_eq_true,Bool.not_eq_true',decide_eq_true_eq]
theorem lessE_asym {a b:EntV} (h:lessE a b=true):lessE b a=false:=by
 rw [Bool.eq_false_iff];intro h2;rw [lessE_iff] at h h2;rcases h with h | ⟨h,h'⟩
 ·rcases h2 with h2 | ⟨h2,_⟩
  ·rw [lessI_asym h] at h2;cases h2
  ·rw [h] at h2;cases h2
 ·rcases h2 with h2 | ⟨_,h2⟩
  ·rw [h] at h2;cases h2
  ·omega
theorem lessE_self (a:EntV):lessE a a=false:=by
 cases h:lessE a a with
 | false => rfl
 | true => rw [lessE_asym h] at h;cases h
theorem leE_trans {a b c:EntV} (h:lessE b a=false) (h2:lessE c b=false):lessE c a=false:=by
 have n1:¬ (lessI b.it a.it=true ∨ (lessI a.it b.it=false∧b.run < a.run)):=by rw [← lessE_iff,h];decide
 have n2:¬ (lessI c.it b.it=true ∨ (lessI b.it c.it=false∧c.run < b.run)):=by rw [← lessE_iff,h2];decide
 have m1:lessI b.it a.it=false:=by
  cases e:lessI b.it a.it with
  | false => rfl
  | true => exact absurd (.inl e) n1
 have m2:lessI c.it b.it=false:=by
  cases e:lessI c.it b.it with
  | false => rfl
  | true => exact absurd (.inl e) n2
 rw [Bool.eq_false_iff];intro h3;rw [lessE_iff] at h3;rcases h3 with h3 | ⟨h3,h4⟩
 ·rw [leI_trans m1 m2] at h3;cases h3
 ·have m3:lessI a.it b.it=false:=leI_trans m2 h3
  have m4:lessI b.it c.it=false:=leI_trans h3 m1;have r1:¬ b.run < a.run:=fun x => n1 (.inr ⟨m3,x⟩)
  have r2:¬ c.run < b.run:=fun x => n2 (.inr ⟨m4,x⟩)
  omega
def Least15 (x:EntV) (l:List EntV):Prop:=∀ y ∈ l,lessE y x=false
theorem Least15.perm {x:EntV} {l l':List EntV} (h:Least15 x l) (hp:l.Perm l'):Least15 x l':=fun y hy => h y (hp.mem_iff.2 hy)
theorem least_one {x y:EntV} {l l':List EntV} (hx:Least15 x l) (hy:Least15 y l') (hp:l.Perm l') (mx:x ∈ l) (my:y ∈ l'):lessE x y=false∧lessE y x=false:=
 ⟨hy x (hp.mem_iff.1 mx),hx y (hp.mem_iff.2 my)⟩
def TakeAt (l:List EntV) (k:Nat) (j:Int):Prop:=(k=0∧j = -1) ∨ ∃ n:Nat,j=(n:Int)∧n < k ∧ ∀ i,i < k → lessE (l.getD i zeroV15) (l.getD n zeroV15)=false
theorem TakeAt.start (l:List EntV):TakeAt l 0 (-1):=.inl ⟨rfl,rfl⟩
theorem TakeAt.first {l:List EntV}:TakeAt l 1 0:=by
 refine .inr ⟨0,rfl,by omega,fun i hi => ?_⟩
 obtain rfl:i=0:=by omega
 exact lessE_self _
theorem TakeAt.less {l:List EntV} {k n:Nat} (h:TakeAt l k (n:Int)) (hl:lessE (l.getD k zeroV15) (l.getD n zeroV15)=true):TakeAt l (k+1) (k:Int):=by
 rcases h with ⟨_,h⟩ | ⟨m,hm,hk,h⟩
 ·omega
 ·obtain rfl:n=m:=by omega
  refine .inr ⟨k,rfl,by omega,fun i hi => ?_⟩
  by_cases e:i=k
  ·rw [e];exact lessE_self _
  ·exact leE_trans (lessE_asym hl) (h i (by omega))
theorem TakeAt.more {l:List EntV} {k n:Nat} (h:TakeAt l k (n:Int)) (hl:lessE (l.getD k zeroV15) (l.getD n zeroV15)=false):TakeAt l (k+1) (n:Int):=by
 rcases h with ⟨_,h⟩ | ⟨m,hm,hk,h⟩
 ·omega
 ·obtain rfl:n=m:=by omega
  refine .inr ⟨n,rfl,by omega,fun i hi => ?_⟩
  by_cases e:i=k
  ·rw [e];exact hl
  ·exact h i (by omega)
theorem TakeAt.least {l:List EntV} {n:Nat} (h:TakeAt l l.length (n:Int)):n < l.length∧Least15 (l.getD n zeroV15) l:=by
 rcases h with ⟨_,h⟩ | ⟨m,hm,hk,h⟩
 ·omega
 ·obtain rfl:n=m:=by omega
  refine ⟨hk,fun y hy => ?_⟩
  obtain ⟨i,hi,rfl⟩:=List.getElem_of_mem hy;have:=h i hi;rw [List.getD,List.getElem?_eq_getElem hi] at this;exact this
def FindAt (l:List EntV) (x:EntV) (k:Nat) (j:Int):Prop:=(j = -1 ∧ ∀ i,i < k → l.getD i zeroV15≠x) ∨ ∃ n:Nat,j=(n:Int)∧n < k∧l.getD n zeroV15=x
theorem FindAt.start (l:List EntV) (x:EntV):FindAt l x 0 (-1):=.inl ⟨rfl,fun i hi => by omega⟩
theorem FindAt.yes {l:List EntV} {x:EntV} {k:Nat} (h:l.getD k zeroV15=x):FindAt l x (k+1) (k:Int):=.inr ⟨k,rfl,by omega,h⟩
theorem FindAt.no {l:List EntV} {x:EntV} {k:Nat} {j:Int} (h:FindAt l x k j) (hn:l.getD k zeroV15≠x):FindAt l x (k+1) j:=by
 rcases h with ⟨h1,h2⟩ | ⟨n,h1,h2,h3⟩
 ·refine .inl ⟨h1,fun i hi => ?_⟩
  by_cases e:i=k
  ·rw [e];exact hn
  ·exact h2 i (by omega)
 ·exact .inr ⟨n,h1,by omega,h3⟩
theorem FindAt.took {l L L':List EntV} {x:EntV} {j:Int} (h:FindAt l x l.length j) (hp:L.Perm l) (hx:L.Perm (x :: L')):∃ n:Nat,j=(n:Int)∧n < l.length∧l.getD n zeroV15=x∧L'.Perm (l.take n++l.drop (n+1)):=by
 have hm:x ∈ l:=hp.mem_iff.1 (hx.mem_iff.2 (List.mem_cons_self ..));rcases h with ⟨_,h2⟩ | ⟨n,h1,h2,h3⟩
 ·obtain ⟨i,hi,he⟩:=List.getElem_of_mem hm
  exact absurd (by rw [List.getD,List.getElem?_eq_getElem hi];exact he) (h2 i hi)
 ·refine ⟨n,h1,h2,h3,?_⟩
  have e:l=l.take n++x :: l.drop (n+1):=by
   have h4:l[n]=x:=by rw [← h3,List.getD,List.getElem?_eq_getElem h2];rfl
   rw [← h4,← List.drop_eq_getElem_cons h2,List.take_append_drop]
  have p1:(x :: L').Perm (x :: (l.take n++l.drop (n+1))):=by
   refine hx.symm.trans (hp.trans ?_)
   conv => lhs;rw [e]
   exact List.perm_middle
  exact (List.perm_cons x).1 p1
end Go.Proofs.Ytphehianajckaaa.Hea
end
