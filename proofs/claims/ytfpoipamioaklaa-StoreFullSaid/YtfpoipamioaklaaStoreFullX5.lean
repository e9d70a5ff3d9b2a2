/- Texts of this seat, merged: what the proof reaches. -/
import Derived.Test.YtfpoipamioaklaaStoreFullX2
import Derived.Lib.IndexLaws
import Derived.Lib.Strings
import Derived.Laws.Strings3
import Derived.MapKept
import Derived.Test.YtfpoipamioaklaaStoreFullX3
import Derived.Maps.OwnOps
import Derived.Maps.Own
import Derived.Maps.OwnSet
namespace Go.Proofs.Ytfpoipamioaklaa
namespace Base
end Base
namespace Byt
end Byt
namespace Txt
end Txt
end Go.Proofs.Ytfpoipamioaklaa
section
namespace Go.Proofs.Ytfpoipamioaklaa.Sto
set_option linter.unusedVariables false
structure SM where
 room:Nat
 fails:List Int
 runs:List (List UInt8 × Bool)
 writes:Nat
 peak:Nat
def newS (room:Int) (fails:List Int):SM:=⟨room.toNat,fails,[],0,0⟩
def hasS (M:SM) (id:Int):Bool:=decide (0≤id∧id < M.runs.length) && (M.runs.getD id.toNat ([],false)).2
def runS (M:SM) (id:Int):List UInt8:=if hasS M id=true then (M.runs.getD id.toNat ([],false)).1 else []
def usedR (l:List (List UInt8 × Bool)):Nat:=(l.map fun r => if r.2=true then r.1.length else 0).sum
def usedS (M:SM):Nat:=usedR M.runs
def createS (M:SM):SM:={ M with runs:=M.runs++[([],true)] }
def putS14 (M:SM) (id:Int) (b:List UInt8):SM:=
 { M with runs:=M.runs.set id.toNat ((M.runs.getD id.toNat ([],false)).1++b,true),writes:=M.writes+1,peak:=max M.peak (usedR (M.runs.set id.toNat ((M.runs.getD id.toNat ([],false)).1++b,true))) }
def appendS (M:SM) (id:Int) (b:List UInt8):Int × SM:=
 if hasS M id=false then (14,M)
 else if (M.writes:Int) ∈ M.fails then (13,{ M with writes:=M.writes+1 })
 else if M.room < usedS M+b.length then (12,{ M with writes:=M.writes+1 })
 else (0,putS14 M id b)
def readS (M:SM) (id at_ n:Int):List UInt8 × Int:=
 if hasS M id=false then ([],14)
 else if at_ < 0 ∨ n < 0 ∨ (runS M id).length < at_ then ([],1)
 else (((runS M id).drop at_.toNat).take n.toNat,0)
def dropS (M:SM) (id:Int):Int × SM:=
 if hasS M id=false then (14,M) else (0,{ M with runs:=M.runs.set id.toNat ((M.runs.getD id.toNat ([],false)).1,false) })
structure SmallS (M:SM):Prop where
 runs:M.runs.length≤1000
 each:∀ r ∈ M.runs,r.1.length≤1000000
 writes:M.writes≤1000000
 peak:M.peak≤1000000000
 fails:M.fails.length≤1000
theorem sum_le (l:List Nat) (c:Nat) (h:∀ x ∈ l,x≤c):l.sum≤l.length * c:=by
 induction l with
 | nil => simp
 | cons x l ih =>
   rw [List.sum_cons,List.length_cons,Nat.add_mul,Nat.one_mul];have:=ih fun y hy => h y (List.mem_cons_of_mem _ hy)
   have:=h x (List.mem_cons_self ..);omega
theorem SmallS.used {M:SM} (h:SmallS M):usedS M≤1000000000:=by
 unfold usedS usedR
 have:=sum_le (M.runs.map fun r => if r.2=true then r.1.length else 0) 1000000 (fun x hx => by
  obtain ⟨r,hr,rfl⟩:=List.mem_map.1 hx;have:=h.each r hr
  split<;>omega)
 rw [List.length_map] at this;have:=h.runs;have:M.runs.length * 1000000≤1000 * 1000000:=Nat.mul_le_mul_right _ this;omega
theorem usedR_append (a b:List (List UInt8 × Bool)):usedR (a++b)=usedR a+usedR b:=by unfold usedR;rw [List.map_append,List.sum_append]
theorem usedR_set {l:List (List UInt8 × Bool)}:∀ {k:Nat},k < l.length → ∀ x:List UInt8 × Bool,usedR (l.set k x)+(if (l.getD k ([],false)).2=true then (l.getD k ([],false)).1.length else 0)=usedR l+(if x.2=true then x.1.length else 0):=by
 induction l with
 | nil => intro k h;simp at h
 | cons y l ih =>
   intro k h x
   cases k with
   | zero =>
     unfold usedR;simp only [List.set_cons_zero,List.map_cons,List.sum_cons,List.getD_cons_zero];omega
   | succ k =>
     have:=ih (by simpa using h) x
     unfold usedR at this ⊢;simp only [List.set_cons_succ,List.map_cons,List.sum_cons,List.getD_cons_succ];omega
theorem has_iff {M:SM} {id:Int}:hasS M id=true ↔ ∃ k:Nat,id=(k:Int)∧k < M.runs.length∧(M.runs.getD k ([],false)).2=true:=by
 unfold hasS;rw [Bool.and_eq_true,decide_eq_true_eq];constructor
 ·rintro ⟨⟨h1,h2⟩,h3⟩
  exact ⟨id.toNat,by omega,by omega,h3⟩
 ·rintro ⟨k,rfl,h2,h3⟩
  exact ⟨⟨by omega,by omega⟩,by simpa using h3⟩
theorem runS_some {M:SM} {k:Nat} (h:hasS M (k:Int)=true):runS M (k:Int)=(M.runs.getD k ([],false)).1:=by
 unfold runS;rw [if_pos h];rfl
theorem runS_none {M:SM} {id:Int} (h:hasS M id=false):runS M id=[]:=by
 unfold runS;rw [if_neg (by rw [h];decide)]
theorem appendS_none {M:SM} {id:Int} {b:List UInt8} (h:hasS M id=false):appendS M id b=(14,M):=by unfold appendS;rw [if_pos h]
theorem appendS_io {M:SM} {id:Int} {b:List UInt8} (h:hasS M id=true) (hf:(M.writes:Int) ∈ M.fails):appendS M id b=(13,{ M with writes:=M.writes+1 }):=by unfold appendS;rw [if_neg (by rw [h];decide),if_pos hf]
theorem appendS_full {M:SM} {id:Int} {b:List UInt8} (h:hasS M id=true) (hf:¬ (M.writes:Int) ∈ M.fails) (hr:M.room < usedS M+b.length):appendS M id b=(12,{ M with writes:=M.writes+1 }):=by unfold appendS;rw [if_neg (by rw [h];decide),if_neg hf,if_pos hr]
theorem appendS_ok {M:SM} {id:Int} {b:List UInt8} (h:hasS M id=true) (hf:¬ (M.writes:Int) ∈ M.fails) (hr:¬ M.room < usedS M+b.length):appendS M id b=(0,putS14 M id b):=by unfold appendS;rw [if_neg (by rw [h];decide),if_neg hf,if_neg hr]
end Go.Proofs.Ytfpoipamioaklaa.Sto
end
section
namespace Go.Proofs.Ytfpoipamioaklaa.Sto
set_option linter.unusedVariables false
structure FullJ (R i:Nat) (M:SM) (U:Nat) (ids szs:List Int):Prop where
 room:M.room=R
 fails:M.fails=[]
 runs:M.runs.length=i
 writes:M.writes=i
 peak:M.peak≤R
 used:usedS M=U
 le:U≤R
 len:ids.length=szs.length
 cnt:ids.length≤i
 each:∀ q,q < ids.length → ∃ k:Nat,ids.getD q 0=(k:Int)∧k < i∧(M.runs.getD k ([],false)).2=true∧((M.runs.getD k ([],false)).1.length:Int)=szs.getD q 0
 dist:ids.Nodup
 small:∀ r ∈ M.runs,r.1.length≤255
theorem getDR_app (l:List (List UInt8 × Bool)) (x:List UInt8 × Bool):(l++[x]).getD l.length ([],false)=x:=by
 rw [List.getD,List.getElem?_append_right (Nat.le_refl _),Nat.sub_self];rfl
theorem getDR_left (l:List (List UInt8 × Bool)) (x:List UInt8 × Bool) {k:Nat} (h:k < l.length):(l++[x]).getD k ([],false)=l.getD k ([],false):=by
 rw [List.getD,List.getElem?_append_left h,List.getD]
theorem getDR_set (l:List (List UInt8 × Bool)) (x:List UInt8 × Bool) {k j:Nat} (hk:k < l.length):(l.set k x).getD j ([],false)=if j=k then x else l.getD j ([],false):=by
 rw [List.getD,List.getElem?_set,List.getD]
 by_cases h:k=j
 ·subst h;simp [hk]
 ·rw [if_neg h,if_neg (fun e => h e.symm)]
theorem FullJ.start (R:Nat):FullJ R 0 ⟨R,[],[],0,0⟩ 0 [] []:=⟨rfl,rfl,rfl,rfl,Nat.zero_le _,rfl,Nat.zero_le _,rfl,Nat.le_refl _,fun q h => by simp at h,List.nodup_nil,fun r h => by simp at h⟩
section
variable {R i:Nat} {M:SM} {U:Nat} {ids szs:List Int}
theorem FullJ.isSmall (h:FullJ R i M U ids szs) (hi:i≤200) (hR:R≤65535):SmallS M:=⟨by rw [h.runs];omega,fun r hr => by have:=h.small r hr;omega,by rw [h.writes];omega,by have:=h.peak;omega,by rw [h.fails];simp⟩
theorem FullJ.create (h:FullJ R i M U ids szs) (hi:i≤200) (hR:R≤65535):SmallS (createS M)∧hasS (createS M) (i:Int)=true∧((createS M).runs.getD i ([],false))=([],true)∧usedS (createS M)=U∧(createS M).runs.length=i+1:=by
 have e1:(createS M).runs.getD i ([],false)=([],true):=by
  show (M.runs++[([],true)]).getD i ([],false)=_;rw [← h.runs];exact getDR_app _ _
 have e2:(createS M).runs.length=i+1:=by
  show (M.runs++[([],true)]).length=_;rw [List.length_append,h.runs];rfl
 refine ⟨⟨by rw [e2];omega,fun r hr => ?_,by show M.writes≤_;rw [h.writes];omega,by show M.peak≤_;have:=h.peak;omega,by show M.fails.length≤_;rw [h.fails];simp⟩,has_iff.2 ⟨i,rfl,by omega,by rw [e1]⟩,e1,?_,e2⟩
 ·rcases List.mem_append.1 hr with hr | hr
  ·have:=h.small r hr;omega
  ·rw [List.mem_singleton.1 hr];simp
 ·show usedR (M.runs++[([],true)])=U
  rw [usedR_append,← h.used];rfl
theorem FullJ.full (h:FullJ R i M U ids szs) (hi:i≤200) (hR:R≤65535) {b:List UInt8} (hb:R < U+b.length):∃ M2,appendS (createS M) (i:Int) b=(12,M2)∧FullJ R (i+1) M2 U ids szs:=by
 obtain ⟨c1,c2,c3,c4,c5⟩:=h.create hi hR;refine ⟨_,appendS_full c2 (by show ¬ (M.writes:Int) ∈ M.fails;rw [h.fails];simp) (by rw [c4];show M.room < _;rw [h.room];exact hb),?_⟩
 exact
 { room:=h.room
   fails:=h.fails
   runs:=c5
   writes:=by show M.writes+1=_;rw [h.writes]
   peak:=h.peak
   used:=c4
   le:=h.le
   len:=h.len
   cnt:=by have:=h.cnt;omega
   each:=fun q hq => by
    obtain ⟨k,h1,h2,h3,h4⟩:=h.each q hq;refine ⟨k,h1,by omega,?_,?_⟩
    ·show ((M.runs++[([],true)]).getD k ([],false)).2=true
     rw [getDR_left _ _ (by rw [h.runs];exact h2)];exact h3
    ·show (((M.runs++[([],true)]).getD k ([],false)).1.length:Int)=_
     rw [getDR_left _ _ (by rw [h.runs];exact h2)];exact h4
   dist:=h.dist
   small:=fun r hr => by
    rcases List.mem_append.1 hr with hr | hr
    ·exact h.small r hr
    ·rw [List.mem_singleton.1 hr];simp }
theorem FullJ.ok (h:FullJ R i M U ids szs) (hi:i≤200) (hR:R≤65535) {b:List UInt8} (hb:¬ R < U+b.length) (h255:b.length≤255):∃ M2,appendS (createS M) (i:Int) b=(0,M2)∧FullJ R (i+1) M2 (U+b.length) (ids++[(i:Int)]) (szs++[(b.length:Int)]):=by
 obtain ⟨c1,c2,c3,c4,c5⟩:=h.create hi hR;have e0:((i:Int)).toNat=i:=by simp
 have hrun:(putS14 (createS M) (i:Int) b).runs=(createS M).runs.set i (b,true):=by
  unfold putS14;show (createS M).runs.set ((i:Int)).toNat (((createS M).runs.getD ((i:Int)).toNat ([],false)).1++b,true)=_;rw [e0,c3];rfl
 have hu:usedR ((createS M).runs.set i (b,true))=U+b.length:=by
  have h1:=usedR_set (l:=(createS M).runs) (k:=i) (by omega) (b,true)
  rw [c3] at h1;have h2:usedR (createS M).runs=U:=c4;rw [h2] at h1
  simpa using h1
 have hget:∀ k,k < i → ((createS M).runs.set i (b,true)).getD k ([],false)=M.runs.getD k ([],false):=fun k hk => by
  rw [getDR_set _ _ (by omega),if_neg (by omega)]
  exact getDR_left _ _ (by rw [h.runs];exact hk)
 refine ⟨_,appendS_ok c2 (by show ¬ (M.writes:Int) ∈ M.fails;rw [h.fails];simp) (by rw [c4];show ¬ M.room < _;rw [h.room];exact hb),?_⟩
 exact
 { room:=h.room
   fails:=h.fails
   runs:=by rw [hrun,List.length_set];exact c5
   writes:=by show M.writes+1=_;rw [h.writes]
   peak:=by
    have e:(putS14 (createS M) (i:Int) b).peak=max M.peak (usedR (putS14 (createS M) (i:Int) b).runs):=rfl;rw [e,hrun,hu];have:=h.peak;omega
   used:=by unfold usedS;rw [hrun];exact hu
   le:=by omega
   len:=by rw [List.length_append,List.length_append,h.len];rfl
   cnt:=by have:=h.cnt;rw [List.length_append,List.length_singleton];omega
   each:=fun q hq => by
    rw [hrun]
    by_cases hql:q < ids.length
    ·obtain ⟨k,h1,h2,h3,h4⟩:=h.each q hql
     refine ⟨k,?_,by omega,?_,?_⟩
     ·rw [List.getD,List.getElem?_append_left hql];exact h1
     ·rw [hget k h2];exact h3
     ·rw [hget k h2,h4,List.getD,List.getD,List.getElem?_append_left (by rw [← h.len];exact hql)]
    ·rw [List.length_append] at hq
     obtain rfl:q=ids.length:=by simp at hq;omega
     refine ⟨i,?_,by omega,?_,?_⟩
     ·rw [List.getD,List.getElem?_append_right (Nat.le_refl _),Nat.sub_self];rfl
     ·rw [getDR_set _ _ (by omega),if_pos rfl]
     ·rw [getDR_set _ _ (by omega),if_pos rfl,List.getD,List.getElem?_append_right (by rw [h.len];exact Nat.le_refl _),h.len,Nat.sub_self];rfl
   dist:=by
    refine List.nodup_append.2 ⟨h.dist,by simp,fun x hx y hy e => ?_⟩
    rw [List.mem_singleton.1 hy] at e;obtain ⟨q,hq,hqx⟩:=List.mem_iff_getElem.1 hx;obtain ⟨k,h1,h2,_⟩:=h.each q hq;rw [List.getD,List.getElem?_eq_getElem hq] at h1;simp only [Option.getD_some] at h1;omega
   small:=fun r hr => by
    rw [hrun] at hr;rcases List.mem_or_eq_of_mem_set hr with hr | rfl
    ·rcases List.mem_append.1 hr with hr | hr
     ·exact h.small r hr
     ·rw [List.mem_singleton.1 hr];simp
    ·exact h255 }
theorem FullJ.drop (h:FullJ R i M U ids szs) (h0:0 < ids.length):∃ M2 z:_,dropS M (ids.getD 0 0)=(0,M2)∧szs.getD 0 0=((z:Nat):Int)∧z≤U∧z≤255∧FullJ R i M2 (U - z) ids.tail szs.tail:=by
 obtain ⟨k,h1,h2,h3,h4⟩:=h.each 0 h0;have hk:k < M.runs.length:=by rw [h.runs];exact h2
 have hhas:hasS M (k:Int)=true:=has_iff.2 ⟨k,rfl,hk,h3⟩;have e0:((k:Int)).toNat=k:=by simp
 obtain ⟨z,hz⟩:∃ z,(M.runs.getD k ([],false)).1.length=z:=⟨_,rfl⟩;have hmem:M.runs.getD k ([],false) ∈ M.runs:=by rw [List.getD,List.getElem?_eq_getElem hk];exact List.getElem_mem hk
 have hu:=usedR_set (l:=M.runs) hk ((M.runs.getD k ([],false)).1,false);rw [h3,hz] at hu;have hus:usedR M.runs=U:=h.used;rw [hus] at hu;simp only [if_true,Bool.false_eq_true,if_false,Nat.add_zero] at hu;refine ⟨{ M with runs:=M.runs.set k ((M.runs.getD k ([],false)).1,false) },z,?_,by rw [← h4,hz],by omega,by rw [← hz];exact h.small _ hmem,?_⟩
 ·rw [h1]
  unfold dropS;rw [if_neg (by rw [hhas];decide),e0]
 ·exact
  { room:=h.room
    fails:=h.fails
    runs:=by show (M.runs.set k _).length=i;rw [List.length_set,h.runs]
    writes:=h.writes
    peak:=h.peak
    used:=by show usedR (M.runs.set k _)=_;omega
    le:=by have:=h.le;omega
    len:=by rw [List.length_tail,List.length_tail,h.len]
    cnt:=by have:=h.cnt;rw [List.length_tail];omega
    each:=fun q hq => by
     rw [List.length_tail] at hq;obtain ⟨j,j1,j2,j3,j4⟩:=h.each (q+1) (by omega)
     have hne:j≠k:=fun e => by
      subst e;have hq1:q+1 < ids.length:=by omega
      rw [List.getD,List.getElem?_eq_getElem h0] at h1;rw [List.getD,List.getElem?_eq_getElem hq1] at j1;simp only [Option.getD_some] at h1 j1;have:=(List.getElem_inj h.dist).1 (h1.trans j1.symm);omega
     have e1:∀ l:List Int,l.tail.getD q 0=l.getD (q+1) 0:=fun l => by cases l<;>simp [List.getD]
     refine ⟨j,by rw [e1];exact j1,j2,?_,?_⟩
     ·show ((M.runs.set k _).getD j ([],false)).2=true
      rw [getDR_set _ _ hk,if_neg hne];exact j3
     ·show (((M.runs.set k _).getD j ([],false)).1.length:Int)=_
      rw [getDR_set _ _ hk,if_neg hne,e1];exact j4
    dist:=h.dist.sublist (List.tail_sublist _)
    small:=fun r hr => by
     rcases List.mem_or_eq_of_mem_set hr with hr | rfl
     ·exact h.small r hr
     ·show (M.runs.getD k ([],false)).1.length≤255
      exact h.small _ hmem }
end
end Go.Proofs.Ytfpoipamioaklaa.Sto
end
section
namespace Go.Proofs.Ytfpoipamioaklaa.Sto
set_option linter.unusedVariables false
theorem has_nat (M:SM) (k:Nat):hasS M (k:Int)=(decide (k < M.runs.length) && (M.runs.getD k ([],false)).2):=by
 unfold hasS
 have e:decide (0≤(k:Int)∧(k:Int) < (M.runs.length:Int))=decide (k < M.runs.length):=by
  by_cases h:k < M.runs.length
  ·rw [decide_eq_true h,decide_eq_true (by omega)]
  ·rw [decide_eq_false h,decide_eq_false (by omega)]
 rw [e];rfl
theorem has_neg (M:SM) {i:Int} (h:i < 0):hasS M i=false:=by
 unfold hasS;rw [decide_eq_false (by omega)]
 rfl
theorem has_create (M:SM) (i:Int):hasS (createS M) i=if i=(M.runs.length:Int) then true else hasS M i:=by
 by_cases h0:i < 0
 ·rw [has_neg _ h0,has_neg _ h0,if_neg (by omega)]
 obtain ⟨k,rfl⟩:∃ k:Nat,i=(k:Int):=⟨i.toNat,by omega⟩
 rw [has_nat,has_nat];show (decide (k < (M.runs++[([],true)]).length) && ((M.runs++[([],true)]).getD k ([],false)).2)=_
 by_cases h:(k:Int)=(M.runs.length:Int)
 ·obtain rfl:k=M.runs.length:=by omega
  rw [if_pos rfl,getDR_app,decide_eq_true (by simp)]
  rfl
 ·rw [if_neg h]
  by_cases hk:k < M.runs.length
  ·have e:k < (M.runs++[(([]:List UInt8),true)]).length:=by rw [List.length_append];omega
   rw [getDR_left _ _ hk,decide_eq_true e,decide_eq_true hk]
  ·have e:¬ k < (M.runs++[(([]:List UInt8),true)]).length:=by rw [List.length_append];simp only [List.length_cons,List.length_nil];omega
   rw [decide_eq_false e,decide_eq_false hk];rfl
theorem run_create (M:SM) (i:Int):runS (createS M) i=runS M i:=by
 by_cases h:i=(M.runs.length:Int)
 ·subst h
  rw [runS_some (by rw [has_create,if_pos rfl]),runS_none (by rw [has_nat,decide_eq_false (by omega)];rfl)]
  show ((M.runs++[([],true)]).getD M.runs.length ([],false)).1=[];rw [getDR_app]
 ·have e:=has_create M i
  rw [if_neg h] at e
  cases hh:hasS M i with
  | false => rw [runS_none hh,runS_none (by rw [e,hh])]
  | true =>
    obtain ⟨k,rfl,hk,_⟩:=has_iff.1 hh;rw [runS_some hh,runS_some (by rw [e,hh])]
    show ((M.runs++[([],true)]).getD k ([],false)).1=_;rw [getDR_left _ _ hk]
theorem used_create (M:SM):usedS (createS M)=usedS M:=by
 show usedR (M.runs++[([],true)])=usedR M.runs;rw [usedR_append];rfl
theorem has_set {M M':SM} {k:Nat} (hk:k < M.runs.length) {x:List UInt8 × Bool} (hM:M'.runs=M.runs.set k x) (i:Int):hasS M' i=if i=(k:Int) then x.2 else hasS M i:=by
 by_cases h0:i < 0
 ·rw [has_neg _ h0,has_neg _ h0,if_neg (by omega)]
 obtain ⟨j,rfl⟩:∃ j:Nat,i=(j:Int):=⟨i.toNat,by omega⟩
 rw [has_nat,has_nat,hM,List.length_set,getDR_set _ _ hk]
 by_cases h:j=k
 ·subst h
  rw [if_pos rfl,if_pos rfl,decide_eq_true hk];rfl
 ·rw [if_neg h,if_neg (by omega)]
theorem run_set {M M':SM} {k:Nat} (hk:k < M.runs.length) {x:List UInt8 × Bool} (hM:M'.runs=M.runs.set k x) {i:Int} (hi:i≠(k:Int)):runS M' i=runS M i:=by
 have e:=has_set hk hM i;rw [if_neg hi] at e
 cases hh:hasS M i with
 | false => rw [runS_none hh,runS_none (by rw [e,hh])]
 | true =>
   obtain ⟨j,rfl,hj,_⟩:=has_iff.1 hh;rw [runS_some hh,runS_some (by rw [e,hh]),hM,getDR_set _ _ hk,if_neg (by omega)]
theorem has_put {M:SM} {id:Int} (h:hasS M id=true) (b:List UInt8) (i:Int):hasS (putS14 M id b) i=hasS M i:=by
 obtain ⟨k,rfl,hk,_⟩:=has_iff.1 h;rw [has_set hk (x:=((M.runs.getD k ([],false)).1++b,true)) rfl i]
 by_cases hi:i=(k:Int)
 ·rw [if_pos hi,hi,h]
 ·rw [if_neg hi]
theorem run_put {M:SM} {id:Int} (h:hasS M id=true) (b:List UInt8) (i:Int):runS (putS14 M id b) i=if i=id then runS M id++b else runS M i:=by
 obtain ⟨k,rfl,hk,_⟩:=has_iff.1 h
 by_cases hi:i=(k:Int)
 ·subst hi
  rw [if_pos rfl,runS_some (by rw [has_put h,h]),runS_some h]
  show ((M.runs.set k ((M.runs.getD k ([],false)).1++b,true)).getD k ([],false)).1=_;rw [getDR_set _ _ hk,if_pos rfl]
 ·rw [if_neg hi]
  exact run_set hk (x:=((M.runs.getD k ([],false)).1++b,true)) rfl hi
theorem used_put {M:SM} {id:Int} (h:hasS M id=true) (b:List UInt8):usedS (putS14 M id b)=usedS M+b.length:=by
 obtain ⟨k,rfl,hk,ht⟩:=has_iff.1 h;have:=usedR_set hk ((M.runs.getD k ([],false)).1++b,true);rw [if_pos ht,if_pos rfl,List.length_append] at this;show usedR (M.runs.set k ((M.runs.getD k ([],false)).1++b,true))=usedR M.runs+b.length;omega
theorem peak_put {M:SM} {id:Int} (h:hasS M id=true) (b:List UInt8):(putS14 M id b).peak=max M.peak (usedS M+b.length):=by
 rw [← used_put h];rfl
def dropM (M:SM) (id:Int):SM:={ M with runs:=M.runs.set id.toNat ((M.runs.getD id.toNat ([],false)).1,false) }
theorem dropS_yes {M:SM} {id:Int} (h:hasS M id=true):dropS M id=(0,dropM M id):=by
 unfold dropS;rw [if_neg (by rw [h];decide)]
 rfl
theorem has_drop {M:SM} {id:Int} (h:hasS M id=true) (i:Int):hasS (dropM M id) i=if i=id then false else hasS M i:=by
 obtain ⟨k,rfl,hk,_⟩:=has_iff.1 h;exact has_set hk (x:=((M.runs.getD k ([],false)).1,false)) rfl i
theorem run_drop {M:SM} {id:Int} (h:hasS M id=true) {i:Int} (hi:i≠id):runS (dropM M id) i=runS M i:=by
 obtain ⟨k,rfl,hk,_⟩:=has_iff.1 h;exact run_set hk (x:=((M.runs.getD k ([],false)).1,false)) rfl hi
theorem used_drop {M:SM} {id:Int} (h:hasS M id=true):usedS (dropM M id)+(runS M id).length=usedS M:=by
 obtain ⟨k,rfl,hk,ht⟩:=has_iff.1 h;rw [runS_some h];have:=usedR_set hk ((M.runs.getD k ([],false)).1,false);rw [if_pos ht,if_neg (show ¬ (false=true) by decide)] at this
 exact this
end Go.Proofs.Ytfpoipamioaklaa.Sto
end
section
namespace Go.Proofs.Ytfpoipamioaklaa.Mk
open Go.ChangeShapes Go.WideShapes Go.ChangeAt Go.RowKit Go.MapKept Base Byt Txt
set_option linter.unusedVariables false
structure Keying (α:Type) where
 enc:α → Value
 kind:TypeDesc
 isKey:∀ a,IsKey kind (enc a)
 inj:∀ a b,enc a=enc b → a=b
 same:∀ a,Instr.sameBits 10000 (enc a) (enc a)=true
section
variable {α:Type} (K:Keying α)
def MapK (w:World) (B:Nat) (f:α → Option Value):Prop:=
 ∃ es clock,w.heap[B]? = some (.map es clock)∧Stamped es clock∧(∀ e ∈ es.toList,∃ k,e.key=K.enc k∧f k=some e.val)∧(∀ k v,f k=some v → ∃ e ∈ es.toList,e.key=K.enc k)
variable {K} {w w':World} {B:Nat} {f:α → Option Value}
theorem MapK.lt (h:MapK K w B f):B < w.heap.size:=by
 obtain ⟨es,clock,hb,_⟩:=h;exact (Array.getElem?_eq_some_iff.1 hb).1
theorem MapK.kept {S:Nat → Prop} (h:MapK K w B f) (hk:Kept S w w') (hB:¬ S B):MapK K w' B f:=by
 obtain ⟨es,clock,hb,h⟩:=h;exact ⟨es,clock,hk.some_ hb hB,h⟩
theorem mapK_made (K:Keying α) (w:World):MapK K (w.alloc (.map #[] 0)) w.heap.size (fun _ => none):=
 ⟨#[],0,(MapKept.heap_alloc w _).1,stamped_empty 0,by simp,by simp⟩
theorem kept_block {o o':Obj} (hb:w.heap[B]? = some o):Kept (oneB B) w (Go.ChangeMaps.setBlock w B o'):=
 ⟨rfl,rfl,rfl,by simp [Go.ChangeMaps.setBlock],fun k hk hn => (MapKept.heap_set hb).2 k hn⟩
variable {P:Program} {t k e:TypeId}
theorem MapK.put [DecidableEq α] (h:MapK K w B f) (ht:P.underlying t=some (.map k e)) (hk:P.underlying k=some K.kind) (x:α) (v:Value) :
 ∃ w',(Instr.mapUpdate t (.map (some B)) (K.enc x) v).run P w=.ok () w'∧MapK K w' B (fun y => if y=x then some v else f y)∧Kept (oneB B) w w'∧w'.heap.size=w.heap.size:=by
 obtain ⟨es,clock,hb,hs,h1,h2⟩:=h;rcases findNow_spec (K.isKey x) es.toList 0 (fun y hy => by obtain ⟨j,hj,_⟩:=h1 y hy;rw [hj];exact K.isKey j) with ⟨hfind,hne⟩ | ⟨j,e0,hfind,h3,h4⟩
 ·refine ⟨Go.ChangeMaps.setBlock w B (.map (es.push { key:=K.enc x,val:=v,born:=clock }) (clock+1)),?_,⟨_,_,(MapKept.heap_set hb).1,stamped_push hs hne,?_,?_⟩,kept_block hb,by simp [Go.ChangeMaps.setBlock]⟩
  ·simp [Instr.mapUpdate,run_underlying ht,MapKept.run_getObj_map hb,run_checkKey hk (K.isKey x),run_findKey hk hfind,MapKept.run_setObj_map _ hb,Result.andThen,Go.ChangeMaps.setBlock]
  ·intro y hy
   simp only [Array.toList_push,List.mem_append,List.mem_singleton] at hy;rcases hy with hy | rfl
   ·obtain ⟨j,hj,hf⟩:=h1 y hy
    refine ⟨j,hj,?_⟩;show (if j=x then some v else f j)=_
    rw [if_neg (fun e => hne y hy (by rw [hj,e]))]
    exact hf
   ·exact ⟨x,rfl,by show (if x=x then some v else f x)=_;rw [if_pos rfl]⟩
  ·intro j u hj
   simp only [Array.toList_push,List.mem_append,List.mem_singleton];have hj:(if j=x then some v else f j)=some u:=hj
   by_cases hjx:j=x
   ·exact ⟨_,Or.inr rfl,by rw [hjx]⟩
   ·rw [if_neg hjx] at hj
    obtain ⟨y,hy,hk⟩:=h2 j u hj;exact ⟨y,Or.inl hy,hk⟩
 ·rw [Nat.zero_add] at hfind
  have h3':es[j]? = some e0:=by simpa using h3
  have hkeep:∀ w:World,(Instr.keyThatStays (((es[j]?).map (·.key)).getD (K.enc x)) (K.enc x)).run P w=.ok (K.enc x) w:=fun w => by
   rw [h3'];simp only [Option.map_some,Option.getD_some,h4,Instr.keyThatStays,K.same x,if_true];rfl
  refine ⟨Go.ChangeMaps.setBlock w B (.map (es.modify j fun e => { e with key:=K.enc x,val:=v }) clock),?_,⟨_,_,(MapKept.heap_set hb).1,?_,?_,?_⟩,kept_block hb,by simp [Go.ChangeMaps.setBlock]⟩
  ·simp only [Instr.mapUpdate,Sem.run_bind,run_underlying ht,MapKept.run_getObj_map hb,run_checkKey hk (K.isKey x),run_findKey hk hfind,hkeep,Result.andThen]
   simp [MapKept.run_setObj_map _ hb,Go.ChangeMaps.setBlock]
  ·exact stamped_modify hs j _ (fun _ _ => rfl) fun e he hje => by
    rw [h3'] at hje
    cases hje
    exact h4.symm
  ·intro y hy
   obtain ⟨i,hi⟩:=List.getElem?_of_mem hy;rw [Array.getElem?_toList,Array.getElem?_modify] at hi
   by_cases hji:j=i
   ·rw [if_pos hji] at hi
    rw [← hji,h3'] at hi
    cases hi
    exact ⟨x,rfl,by show (if x=x then some v else f x)=_;rw [if_pos rfl]⟩
   ·rw [if_neg hji] at hi
    have hmem:y ∈ es.toList:=List.mem_of_getElem? (by rw [Array.getElem?_toList];exact hi)
    obtain ⟨a,ha,hf⟩:=h1 y hmem;refine ⟨a,ha,?_⟩;show (if a=x then some v else f a)=_
    rw [if_neg (fun hax => ?_)]
    ·exact hf
    ·subst hax
     have hlj:j < es.toList.length:=(List.getElem?_eq_some_iff.1 h3).1
     have hli:i < es.toList.length:=by
      have:=(Array.getElem?_eq_some_iff.1 hi).1
      simpa using this
     have hn:=hs.2.2;have hkj:(es.toList.map (·.key))[j]? = some (K.enc a):=by rw [List.getElem?_map,h3];simp [h4]
     have hki:(es.toList.map (·.key))[i]? = some (K.enc a):=by rw [List.getElem?_map,Array.getElem?_toList,hi];simp [ha]
     have hjl:j < (es.toList.map (·.key)).length:=(List.getElem?_eq_some_iff.1 hkj).1
     have hil:i < (es.toList.map (·.key)).length:=(List.getElem?_eq_some_iff.1 hki).1
     have e1:(es.toList.map (·.key))[j]=(es.toList.map (·.key))[i]:=by
      have a1:=(List.getElem?_eq_some_iff.1 hkj).2;have a2:=(List.getElem?_eq_some_iff.1 hki).2;rw [a1,a2]
     exact hji ((List.getElem_inj hn).1 e1)
  ·intro a u ha
   have ha:(if a=x then some v else f a)=some u:=ha
   have key:∀ y ∈ es.toList,∃ z ∈ (es.modify j fun e => { e with key:=K.enc x,val:=v }).toList,z.key=y.key:=fun y hy => by
    obtain ⟨i,hi⟩:=List.getElem?_of_mem hy;rw [Array.getElem?_toList] at hi
    by_cases hji:j=i
    ·subst hji
     refine ⟨{ y with key:=K.enc x,val:=v },List.mem_of_getElem? (i:=j) (by rw [Array.getElem?_toList,Array.getElem?_modify,if_pos rfl,hi];rfl),?_⟩
     rw [h3'] at hi
     cases hi
     exact h4.symm
    ·exact ⟨y,List.mem_of_getElem? (i:=i) (by rw [Array.getElem?_toList,Array.getElem?_modify,if_neg hji];exact hi),rfl⟩
   by_cases hax:a=x
   ·obtain ⟨z,hz,hzk⟩:=key e0 (List.mem_of_getElem? h3)
    exact ⟨z,hz,by rw [hzk,h4,hax]⟩
   ·rw [if_neg hax] at ha
    obtain ⟨y,hy,hyk⟩:=h2 a u ha;obtain ⟨z,hz,hzk⟩:=key y hy;exact ⟨z,hz,by rw [hzk,hyk]⟩
theorem MapK.look (h:MapK K w B f) (ht:P.underlying t=some (.map k e)) (hk:P.underlying k=some K.kind) {z:Value} (hz:∀ w,(zeroValue e).run P w=.ok z w) (x:α) :
 (Instr.lookup t (.map (some B)) (K.enc x) false).run P w=.ok ((f x).getD z) w:=by
 obtain ⟨es,clock,hb,hs,h1,h2⟩:=h;rcases findNow_spec (K.isKey x) es.toList 0 (fun y hy => by obtain ⟨j,hj,_⟩:=h1 y hy;rw [hj];exact K.isKey j) with ⟨hfind,hno⟩ | ⟨j,e0,hfind,h3,h4⟩
 ·have hx:f x=none:=by
   cases hf:f x with
   | none => rfl
   | some v =>
     obtain ⟨y,hy,hyk⟩:=h2 x v hf;exact absurd hyk (hno y hy)
  rw [hx];simp [Instr.lookup,run_underlying ht,MapKept.run_getObj_map hb,run_checkKey hk (K.isKey x),run_findKey hk hfind,Result.andThen,hz]
 ·have hx:f x=some e0.val:=by
   obtain ⟨j',hj',hf⟩:=h1 e0 (List.mem_of_getElem? h3);rw [← K.inj _ _ (hj'.symm.trans h4)];exact hf
  rw [hx];have hfind':Instr.findNow K.kind (K.enc x) es.toList 0=some (some (0+j,e0.val)):=by simpa using hfind
  simp [Instr.lookup,run_underlying ht,MapKept.run_getObj_map hb,run_checkKey hk (K.isKey x),run_findKey hk hfind',Result.andThen]
theorem MapK.look_ok (h:MapK K w B f) (ht:P.underlying t=some (.map k e)) (hk:P.underlying k=some K.kind) {z:Value} (hz:∀ w,(zeroValue e).run P w=.ok z w) (x:α) :
 (Instr.lookup t (.map (some B)) (K.enc x) true).run P w=.ok (.tuple #[(f x).getD z,.bool (f x).isSome]) w:=by
 obtain ⟨es,clock,hb,hs,h1,h2⟩:=h;rcases findNow_spec (K.isKey x) es.toList 0 (fun y hy => by obtain ⟨j,hj,_⟩:=h1 y hy;rw [hj];exact K.isKey j) with ⟨hfind,hno⟩ | ⟨j,e0,hfind,h3,h4⟩
 ·have hx:f x=none:=by
   cases hf:f x with
   | none => rfl
   | some v =>
     obtain ⟨y,hy,hyk⟩:=h2 x v hf;exact absurd hyk (hno y hy)
  rw [hx];simp [Instr.lookup,run_underlying ht,MapKept.run_getObj_map hb,run_checkKey hk (K.isKey x),run_findKey hk hfind,Result.andThen,hz]
 ·have hx:f x=some e0.val:=by
   obtain ⟨j',hj',hf⟩:=h1 e0 (List.mem_of_getElem? h3);rw [← K.inj _ _ (hj'.symm.trans h4)];exact hf
  rw [hx];have hfind':Instr.findNow K.kind (K.enc x) es.toList 0=some (some (0+j,e0.val)):=by simpa using hfind
  simp [Instr.lookup,run_underlying ht,MapKept.run_getObj_map hb,run_checkKey hk (K.isKey x),run_findKey hk hfind',Result.andThen]
end
section
variable {α:Type} [DecidableEq α] {K:Keying α} {P:Program} {w:World} {ops:Array Oper} {rest:List Oper} {o:Oper} {a:Act} {Q:Exit → Act → World → Prop} {f:α → Option Value} {t k e:TypeId}
theorem wpList_putK (hg:o.guard=none) (m x v:Operand) (hop:o.op=.mapUpdate t m x v) (ht:P.underlying t=some (.map k e)) (hk:P.underlying k=some K.kind)
 (B:Nat) (h:MapK K w B f) (hm:a.eval m=.map (some B)) (key:α) (hx:a.eval x=K.enc key) (val:Value) (hv:a.eval v=val)
 (hK:∀ w',Hid (MapK K w' B (fun y => if y=key then some val else f y)) → Hid (Kept (oneB B) w w') → w'.heap.size=w.heap.size → wpList P ops Q rest (a.put o.dst undef) w'):wpList P ops Q (o :: rest) a w:=by
 refine wpList_plain hg fun K' hK' => ?_
 subst hv;obtain ⟨w',hrun,h1,h2,h3⟩:=h.put ht hk key (a.eval v);unfold Oper.wp;simp [execOp,hop,hm,hx,hrun,Result.andThen];exact hK' _ _ (hK w' (Lib.hid h1) (Lib.hid h2) h3)
end
end Go.Proofs.Ytfpoipamioaklaa.Mk
end
section
namespace Go.Proofs.Ytfpoipamioaklaa.Mk
open Go.ChangeShapes Go.WideShapes Go.ChangeAt Go.RowKit Go.MapKept Base Byt Txt
set_option linter.unusedVariables false
section
variable {α:Type} {K:Keying α} {w w':World} {B:Nat} {f:α → Option Value} {P:Program} {t k e:TypeId}
theorem MapK.del [DecidableEq α] (h:MapK K w B f) (ht:P.underlying t=some (.map k e)) (hk:P.underlying k=some K.kind) (x:α) (ty:TypeId) :
 ∃ w',(Builtin.delete_ #[t,k] ty #[.map (some B),K.enc x]).run P w=.ok (.tuple #[]) w'∧MapK K w' B (fun y => if y=x then none else f y)∧Kept (oneB B) w w'∧w'.heap.size=w.heap.size:=by
 obtain ⟨es,clock,hb,hs,h1,h2⟩:=h;rcases findNow_spec (K.isKey x) es.toList 0 (fun y hy => by obtain ⟨j,hj,_⟩:=h1 y hy;rw [hj];exact K.isKey j) with ⟨hfind,hne⟩ | ⟨j,e0,hfind,h3,h4⟩
 ·refine ⟨Go.ChangeMaps.setBlock w B (.map es clock),?_,⟨_,_,(MapKept.heap_set hb).1,hs,?_,?_⟩,kept_block hb,by simp [Go.ChangeMaps.setBlock]⟩
  ·simp [Builtin.delete_,run_underlying ht,MapKept.run_getObj_map hb,run_checkKey hk (K.isKey x),run_findKey hk hfind,MapKept.run_setObj_map _ hb,Result.andThen,Go.ChangeMaps.setBlock]
  ·intro y hy
   obtain ⟨i,hi,hf⟩:=h1 y hy;refine ⟨i,hi,?_⟩;show (if i=x then none else f i)=_
   rw [if_neg (fun e => hne y hy (by rw [hi,e]))]
   exact hf
  ·intro i u hi
   have hi:(if i=x then none else f i)=some u:=hi
   by_cases hix:i=x
   ·rw [if_pos hix] at hi;cases hi
   ·rw [if_neg hix] at hi
    exact h2 i u hi
 ·rw [Nat.zero_add] at hfind
  have hjl:j < es.toList.length:=(List.getElem?_eq_some_iff.1 h3).1;have hjs:j < es.size:=by simpa using hjl
  have hsub:(es.eraseIdxIfInBounds j).toList=es.toList.eraseIdx j:=by
   unfold Array.eraseIdxIfInBounds;rw [dif_pos hjs];simp
  have hkey:∀ i y,es.toList[i]? = some y → y.key=K.enc x → i=j:=fun i y hi hy => by
   have hkj:(es.toList.map (·.key))[j]? = some (K.enc x):=by rw [List.getElem?_map,h3];simp [h4]
   have hki:(es.toList.map (·.key))[i]? = some (K.enc x):=by rw [List.getElem?_map,hi];simp [hy]
   have hjl:j < (es.toList.map (·.key)).length:=(List.getElem?_eq_some_iff.1 hkj).1
   have hil:i < (es.toList.map (·.key)).length:=(List.getElem?_eq_some_iff.1 hki).1
   have e1:(es.toList.map (·.key))[j]=(es.toList.map (·.key))[i]:=by
    have a1:=(List.getElem?_eq_some_iff.1 hkj).2;have a2:=(List.getElem?_eq_some_iff.1 hki).2;rw [a1,a2]
   exact ((List.getElem_inj hs.2.2).1 e1).symm
  refine ⟨Go.ChangeMaps.setBlock w B (.map (es.eraseIdxIfInBounds j) clock),?_,⟨_,_,(MapKept.heap_set hb).1,stamped_erase hs j,?_,?_⟩,kept_block hb,by simp [Go.ChangeMaps.setBlock]⟩
  ·simp [Builtin.delete_,run_underlying ht,MapKept.run_getObj_map hb,run_checkKey hk (K.isKey x),run_findKey hk hfind,MapKept.run_setObj_map _ hb,Result.andThen,Go.ChangeMaps.setBlock]
  ·intro y hy
   rw [hsub] at hy;obtain ⟨i,hne,hi⟩:=List.mem_eraseIdx_iff_getElem?.1 hy;obtain ⟨a,ha,hf⟩:=h1 y (List.mem_of_getElem? hi);refine ⟨a,ha,?_⟩;show (if a=x then none else f a)=_
   rw [if_neg (fun hax => hne (hkey i y hi (by rw [ha,hax])))]
   exact hf
  ·intro a u ha
   have ha:(if a=x then none else f a)=some u:=ha
   by_cases hax:a=x
   ·rw [if_pos hax] at ha;cases ha
   ·rw [if_neg hax] at ha
    obtain ⟨y,hy,hyk⟩:=h2 a u ha;refine ⟨y,?_,hyk⟩;rw [hsub];obtain ⟨i,hi⟩:=List.getElem?_of_mem hy;refine List.mem_eraseIdx_iff_getElem?.2 ⟨i,fun hij => hax (K.inj _ _ ?_),hi⟩
    rw [← hyk,← h4];rw [hij,h3] at hi
    cases hi
    rfl
end
section
variable {α:Type} [DecidableEq α] {K:Keying α} {P:Program} {w:World} {ops:Array Oper} {rest:List Oper} {o:Oper} {a:Act} {Q:Exit → Act → World → Prop} {f:α → Option Value} {t k e:TypeId}
theorem wpList_delK (hg:o.guard=none) (m x:Operand) (t k:TypeId) (hop:o.op=Op.call { callee:=Callee.builtin Builtin.delete,args:=#[m,x],argTypes:=#[t,k] }) (e:TypeId) (ht:P.underlying t=some (.map k e)) (hk:P.underlying k=some K.kind)
 (B:Nat) (h:MapK K w B f) (hm:a.eval m=.map (some B)) (key:α) (hx:a.eval x=K.enc key)
 (hK:∀ w',Hid (MapK K w' B (fun y => if y=key then none else f y)) → Hid (Kept (oneB B) w w') → w'.heap.size=w.heap.size → wpList P ops Q rest (a.put o.dst (.tuple #[])) w'):wpList P ops Q (o :: rest) a w:=by
 refine wpList_plain hg fun K' hK' => ?_
 obtain ⟨w',hrun,h1,h2,h3⟩:=h.del ht hk key o.type;unfold Oper.wp;simp [execOp,hop,resolve,invoke,builtin,hm,hx,hrun,Result.andThen];exact hK' _ _ (hK w' (Lib.hid h1) (Lib.hid h2) h3)
end
end Go.Proofs.Ytfpoipamioaklaa.Mk
end
