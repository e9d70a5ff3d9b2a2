/- Texts of this seat, merged: what the proof reaches. -/
import Derived.Test.YtfhelebejclalaaDoorLinksMembersX6
import Derived.Test.YtfhelebejclalaaDoorLinksMembersX19
import Derived.Deep.DeepCutAuto
import Derived.Carry
import Derived.StillTailTactics
import Derived.Laws.ResultCell
import Derived.Test.YtfhelebejclalaaDoorLinksMembersX20
import Derived.Test.YtfhelebejclalaaDoorLinksMembersX16
import Derived.Laws.StructEq
import Derived.BigQuiet
namespace Go.Proofs.YtfhelebejclalaaDoor
namespace Base
end Base
namespace Bk
end Bk
namespace Block
end Block
namespace Byt
end Byt
namespace Mem
end Mem
namespace Mk
end Mk
namespace Mp
end Mp
namespace Rec
end Rec
namespace Tre
end Tre
namespace Txt
end Txt
end Go.Proofs.YtfhelebejclalaaDoor
section
namespace Go.Proofs.YtfhelebejclalaaDoor.Tre
open Go.ChangeShapes Go.WideShapes Go.ChangeAt Go.RowKit Base Byt Txt Bk Mk Mem Go.Lib
set_option linter.unusedVariables false
set_option maxRecDepth 100000
theorem kind_ne1 (k:UInt8) (n:UInt8) (z:Int) (hz:(n.toNat:Int)=z):(((k.toNat:Int)) == z)=decide (k=n):=by
 subst hz
 by_cases h:k=n
 ·simp [h]
 ·have:¬ k.toNat=n.toNat:=fun hh => h (UInt8.toNat.inj hh)
  simp only [h,decide_false,beq_eq_false_iff_ne,ne_eq];omega
theorem kind_nq1 (k:UInt8) (n:UInt8) (z:Int) (hz:(n.toNat:Int)=z):(((k.toNat:Int)) != z)=!decide (k=n):=by
 rw [← kind_ne1 k n z hz];rfl
def numsK (f:List UInt8 → Option Nat):List UInt8 → Option Value:=fun x => (f x).map fun n => .int .i64 (n:Int)
structure LayAt (W:World) (g B:Nat) (p:Option Addr) (n c:Nat) (f:List UInt8 → Option Nat):Prop where
 obj:Blk W g 78 #[.slice p n c,.map (some B)]
 map:MapK strK W B (numsK f)
theorem blk_not_map {W:World} {g B:Nat} {t:TypeId} {cs:Array Value} {α:Type} {K:Keying α} {f:α → Option Value} (h:Blk W g t cs) (hm:MapK K W B f):g≠B:=fun e => by
 obtain ⟨es,clock,hb,_⟩:=hm;subst e;have h':W.heap[g]? = some (.cells cs t (0,0)):=h;rw [h'] at hb
 cases hb
theorem LayAt.below {W W':World} {g B:Nat} {p:Option Addr} {n c:Nat} {f:List UInt8 → Option Nat} (h:LayAt W g B p n c f) (hb:Below W.heap.size W W'):LayAt W' g B p n c f:=
 ⟨h.obj.below hb h.obj.lt,h.map.kept (Kept.of_below hb noneB) (fun h => h.elim)⟩
def InS (S:St) (N:Nat):Prop:=∀ e ∈ S,e.2 < N
theorem InS.look {S:St} {N:Nat} (h:InS S N) {x:List UInt8} {n:Nat} (hl:look S x=some n):n < N:=by
 unfold Tre.look at hl;rw [Option.map_eq_some_iff] at hl;obtain ⟨e,he,rfl⟩:=hl;exact h e (List.mem_of_find?_eq_some he)
theorem InS.put {S:St} {N:Nat} (h:InS S N) {p:List UInt8} {n:Nat} (hn:n < N):InS (putS S p n) N:=fun e he => by
 unfold putS at he;rw [List.mem_append,List.mem_filter] at he;rcases he with he | he
 ·exact h e he.1
 ·rw [List.mem_singleton.1 he];exact hn
end Go.Proofs.YtfhelebejclalaaDoor.Tre
end
section
namespace Go.Proofs.YtfhelebejclalaaDoor.Tre
open Mem
set_option linter.unusedVariables false
def Apart (S:St):Prop:=(S.map (·.1)).Nodup
theorem Apart.put {S:St} (h:Apart S) (p:List UInt8) (n:Nat):Apart (putS S p n):=by
 unfold Apart putS at *;rw [List.map_append,List.nodup_append];refine ⟨(List.Sublist.nodup (List.Sublist.map _ (List.filter_sublist)) h),by simp,?_⟩
 intro a ha b hb;simp only [List.map_cons,List.map_nil,List.mem_singleton] at hb;subst hb;rw [List.mem_map] at ha;obtain ⟨e,he,rfl⟩:=ha;rw [List.mem_filter] at he
 simpa using he.2
def firstAt (T:St) (n:Nat):Option Nat:=T.findIdx? fun e => e.2 == n
def leads (ms:List MemV) (T:St) (k n:Nat):Option Nat:=if (ms.getD n zeroMv).kind=48 then firstAt (T.take k) n else none
end Go.Proofs.YtfhelebejclalaaDoor.Tre
end
section
namespace Go.Proofs.YtfhelebejclalaaDoor.Tre
open Go.ChangeShapes Go.WideShapes Go.ChangeAt Go.RowKit Base Byt Txt Bk Mk Mem Go.Lib
set_option linter.unusedVariables false
set_option maxRecDepth 100000
theorem putS_len (S:St) (p:List UInt8) (n:Nat):(putS S p n).length≤S.length+1:=by
 unfold putS;rw [List.length_append];have:=List.length_filter_le (fun e:List UInt8 × Nat => !(e.1 == p)) S
 simpa using this
structure OkS (ms:List MemV) (S:St) (k:Nat):Prop where
 len:S.length≤k
 from_:∀ e ∈ S,∃ j,j < k∧e.1=(ms.getD j zeroMv).path
theorem OkS.put {ms:List MemV} {S:St} {k:Nat} (h:OkS ms S k) (n:Nat):OkS ms (putS S (ms.getD k zeroMv).path n) (k+1):=by
 refine ⟨Nat.le_trans (putS_len _ _ _) (Nat.succ_le_succ h.len),fun e he => ?_⟩
 unfold putS at he;rw [List.mem_append,List.mem_filter] at he;rcases he with he | he
 ·obtain ⟨j,hj,e2⟩:=h.from_ e he.1
  exact ⟨j,by omega,e2⟩
 ·rw [List.mem_singleton.1 he]
  exact ⟨k,by omega,rfl⟩
theorem OkS.lay {ms:List MemV} {S S':St} {k:Nat} (h:OkS ms S k) (hl:layD ms S k=some S'):OkS ms S' (k+1):=by
 unfold layD at hl
 dsimp only at hl
 split at hl
 ·split at hl
  ·cases hl
  ·split at hl
   ·cases hl;exact h.put _
   ·cases hl
 ·cases hl;exact h.put _
end Go.Proofs.YtfhelebejclalaaDoor.Tre
end
section
namespace Go.Proofs.YtfhelebejclalaaDoor.Tre
open Mem
set_option linter.unusedVariables false
theorem good_clean {m:MemV} (h:goodD m=true):cleanOk m.path=true:=by
 unfold goodD at h;simp only [Bool.and_eq_true] at h;exact h.1.1.1.1
def StG (ms:List MemV) (S:St):Prop:=∀ e ∈ S,e.2 < ms.length∧(ms.getD e.2 zeroMv).kind≠49∧cleanOk e.1=true
theorem StG.put {ms:List MemV} {S:St} (h:StG ms S) {p:List UInt8} {n:Nat} (hn:n < ms.length) (hk:(ms.getD n zeroMv).kind≠49) (hp:cleanOk p=true):StG ms (putS S p n):=by
 intro e he;unfold putS at he;rw [List.mem_append,List.mem_filter] at he;rcases he with he | he
 ·exact h e he.1
 ·rw [List.mem_singleton.1 he]
  exact ⟨hn,hk,hp⟩
end Go.Proofs.YtfhelebejclalaaDoor.Tre
end
section
namespace Go.Proofs.YtfhelebejclalaaDoor.Lnk
open Mem Tre
set_option linter.unusedVariables false
def hardN (x:NodeV) (p:List UInt8):MemV:=⟨x.path,p,49,x.mode,x.uid,x.gid,x.time,[]⟩
def nodeAt (t:List NodeV) (p:List UInt8):NodeV:=(findN t p).getD zeroN
structure LkS where
 led:List (List UInt8 × List UInt8)
 out:List MemV
def lkStep (t:List NodeV) (s:LkS) (p:List UInt8):LkS:=
 let x:=nodeAt t p
 if x.kind=48 then
  match s.led.find? (fun e => e.1 == x.leader) with
  | some e => ⟨s.led,s.out++[hardN x e.2]⟩
  | none => ⟨s.led++[(x.leader,x.path)],s.out++[x.mem]⟩
 else ⟨s.led,s.out++[x.mem]⟩
def lkGo (t:List NodeV) (order:List (List UInt8)):LkS:=order.foldl (lkStep t) ⟨[],[]⟩
def linksD (t:List NodeV) (order:List (List UInt8)):List MemV:=(lkGo t order).out
theorem lkGo_snoc (t:List NodeV) (os:List (List UInt8)) (p:List UInt8):lkGo t (os++[p])=lkStep t (lkGo t os) p:=by
 unfold lkGo;rw [List.foldl_append];rfl
def OrderOf (t:List NodeV) (os:List (List UInt8)):Prop:=os.Perm (t.map (·.path))
def repOf (t:List NodeV) (os:List (List UInt8)) (i:Nat):Nat:=
 if (nodeAt t (os.getD i [])).kind=48 then
  ((List.range (i+1)).find? fun j => decide ((nodeAt t (os.getD j [])).kind=48) && decide ((nodeAt t (os.getD j [])).leader=(nodeAt t (os.getD i [])).leader)).getD i
 else i
section
variable {t:List NodeV} {os:List (List UInt8)}
def SameC (t:List NodeV) (os:List (List UInt8)) (i j:Nat):Prop:=(nodeAt t (os.getD j [])).kind=48∧(nodeAt t (os.getD i [])).kind=48∧(nodeAt t (os.getD j [])).leader=(nodeAt t (os.getD i [])).leader
theorem rep_file {i:Nat} (h:(nodeAt t (os.getD i [])).kind=48):repOf t os i≤i∧SameC t os i (repOf t os i) ∧ ∀ j,j < repOf t os i → ¬ SameC t os i j:=by
 unfold repOf;rw [if_pos h]
 cases hf:(List.range (i+1)).find? (fun j => decide ((nodeAt t (os.getD j [])).kind=48) && decide ((nodeAt t (os.getD j [])).leader=(nodeAt t (os.getD i [])).leader)) with
 | none =>
   have:=List.find?_eq_none.1 hf i (List.mem_range.2 (Nat.lt_succ_self _));rw [decide_eq_true h,decide_eq_true rfl] at this;exact absurd rfl this
 | some j =>
   obtain ⟨h1,k,hk,e,h2⟩:=List.find?_eq_some_iff_getElem.1 hf;rw [List.getElem_range] at e;rw [List.length_range] at hk;subst e;simp only [Bool.and_eq_true,decide_eq_true_eq] at h1;refine ⟨by rw [Option.getD_some];omega,⟨by rw [Option.getD_some];exact h1.1,h,by rw [Option.getD_some];exact h1.2⟩,fun j hj hs => ?_⟩
   rw [Option.getD_some] at hj;have:=h2 j hj;rw [List.getElem_range] at this;simp only [Bool.not_eq_true',Bool.and_eq_false_iff,decide_eq_false_iff_not] at this;rcases this with h | h
   ·exact h hs.1
   ·exact h hs.2.2
theorem rep_other {i:Nat} (h:(nodeAt t (os.getD i [])).kind≠48):repOf t os i=i:=by
 unfold repOf;rw [if_neg h]
theorem rep_le (i:Nat):repOf t os i≤i:=by
 by_cases h:(nodeAt t (os.getD i [])).kind=48
 ·exact (rep_file h).1
 ·rw [rep_other h];exact Nat.le_refl _
theorem rep_same {i j:Nat} (h:SameC t os i j):repOf t os i=repOf t os j:=by
 obtain ⟨a1,a2,a3⟩:=rep_file (t:=t) (os:=os) (i:=i) h.2.1;obtain ⟨b1,b2,b3⟩:=rep_file (t:=t) (os:=os) (i:=j) h.1;rcases Nat.lt_trichotomy (repOf t os i) (repOf t os j) with hlt | he | hlt
 ·exact absurd ⟨a2.1,h.1,a2.2.2.trans h.2.2.symm⟩ (b3 _ hlt)
 ·exact he
 ·exact absurd ⟨b2.1,h.2.1,b2.2.2.trans h.2.2⟩ (a3 _ hlt)
theorem rep_rep (i:Nat):repOf t os (repOf t os i)=repOf t os i:=by
 by_cases h:(nodeAt t (os.getD i [])).kind=48
 ·exact (rep_same (rep_file h).2.1).symm
 ·rw [rep_other h,rep_other h]
theorem rep_kind (i:Nat):(nodeAt t (os.getD (repOf t os i) [])).kind=(nodeAt t (os.getD i [])).kind:=by
 by_cases h:(nodeAt t (os.getD i [])).kind=48
 ·rw [(rep_file h).2.1.1,h]
 ·rw [rep_other h]
def memAt (t:List NodeV) (os:List (List UInt8)) (i:Nat):MemV:=
 if repOf t os i=i then (nodeAt t (os.getD i [])).mem else hardN (nodeAt t (os.getD i [])) (os.getD (repOf t os i) [])
end
section
variable {t:List NodeV} {os:List (List UInt8)}
theorem nodeAt_path {p:List UInt8} (h:p ∈ t.map (·.path)):(nodeAt t p).path=p∧nodeAt t p ∈ t:=by
 obtain ⟨x,hx,rfl⟩:=List.mem_map.1 h;unfold nodeAt
 cases hf:findN t x.path with
 | none =>
   unfold findN at hf;have:=List.find?_eq_none.1 hf x hx;simp at this
 | some y =>
   unfold findN at hf;have h2':=List.find?_some hf;have h2:(y.path == x.path)=true:=h2';exact ⟨by simpa using h2,List.mem_of_find?_eq_some hf⟩
def firstsN (t:List NodeV) (os:List (List UInt8)) (n:Nat):List (List UInt8 × List UInt8):=
 ((List.range n).filter fun i => decide ((nodeAt t (os.getD i [])).kind=48) && decide (repOf t os i=i)).map fun i => ((nodeAt t (os.getD i [])).leader,(nodeAt t (os.getD i [])).path)
theorem lkGo_is (hp:∀ p ∈ os,p ∈ t.map (·.path)):∀ n,n≤os.length → lkGo t (os.take n)=⟨firstsN t os n,(List.range n).map (memAt t os)⟩
 | 0,_ => rfl
 | n+1,h => by
   have ih:=lkGo_is hp n (by omega)
   have hn:n < os.length:=by omega
   have hg:os.getD n []=os[n]:=by rw [List.getD,List.getElem?_eq_getElem hn];rfl
   have hpath:(nodeAt t (os.getD n [])).path=os.getD n []:=(nodeAt_path (hp _ (by rw [hg];exact List.getElem_mem hn))).1
   rw [List.take_succ_eq_append_getElem hn,lkGo_snoc,ih,← hg];unfold lkStep
   dsimp only
   rw [List.range_succ,List.map_append];unfold firstsN;rw [List.range_succ,List.filter_append,List.map_append]
   by_cases hk:(nodeAt t (os.getD n [])).kind=48
   ·rw [if_pos hk]
    obtain ⟨r1,r2,r3⟩:=rep_file (t:=t) (os:=os) (i:=n) hk
    by_cases hr:repOf t os n=n
    ·have hnone:(((List.range n).filter fun i => decide ((nodeAt t (os.getD i [])).kind=48) && decide (repOf t os i=i)).map fun i => ((nodeAt t (os.getD i [])).leader,(nodeAt t (os.getD i [])).path)).find? (fun e => e.1 == (nodeAt t (os.getD n [])).leader)=none:=by
      rw [List.find?_eq_none];intro e he;obtain ⟨i,hi,rfl⟩:=List.mem_map.1 he;rw [List.mem_filter,List.mem_range] at hi;obtain ⟨hi1,hi2⟩:=hi;simp only [Bool.and_eq_true,decide_eq_true_eq] at hi2;intro hc;have hc':(nodeAt t (os.getD i [])).leader=(nodeAt t (os.getD n [])).leader:=by simpa using hc
      exact r3 i (by omega) ⟨hi2.1,hk,hc'⟩
     rw [hnone]
     dsimp only
     have hm:memAt t os n=(nodeAt t (os.getD n [])).mem:=by unfold memAt;rw [if_pos hr]
     have hfl:[n].filter (fun i => decide ((nodeAt t (os.getD i [])).kind=48) && decide (repOf t os i=i))=[n]:=by
      rw [List.filter_cons_of_pos (by rw [decide_eq_true hk,decide_eq_true hr];rfl),List.filter_nil]
     rw [hfl,List.map_cons,List.map_nil,List.map_cons,List.map_nil,hm]
    ·have hlt:repOf t os n < n:=by omega
     have hsome:∃ e,(((List.range n).filter fun i => decide ((nodeAt t (os.getD i [])).kind=48) && decide (repOf t os i=i)).map fun i => ((nodeAt t (os.getD i [])).leader,(nodeAt t (os.getD i [])).path)).find? (fun e => e.1 == (nodeAt t (os.getD n [])).leader)=some e∧e.2=os.getD (repOf t os n) []:=by
      cases hf:(((List.range n).filter fun i => decide ((nodeAt t (os.getD i [])).kind=48) && decide (repOf t os i=i)).map fun i => ((nodeAt t (os.getD i [])).leader,(nodeAt t (os.getD i [])).path)).find? (fun e => e.1 == (nodeAt t (os.getD n [])).leader) with
      | none =>
        exfalso
        have hmem:((nodeAt t (os.getD (repOf t os n) [])).leader,(nodeAt t (os.getD (repOf t os n) [])).path) ∈ (((List.range n).filter fun i => decide ((nodeAt t (os.getD i [])).kind=48) && decide (repOf t os i=i)).map fun i => ((nodeAt t (os.getD i [])).leader,(nodeAt t (os.getD i [])).path)):=
         List.mem_map.2 ⟨repOf t os n,List.mem_filter.2 ⟨List.mem_range.2 hlt,by rw [decide_eq_true r2.1,decide_eq_true (rep_rep n)];rfl⟩,rfl⟩
        have:=List.find?_eq_none.1 hf _ hmem;apply this;show ((nodeAt t (os.getD (repOf t os n) [])).leader == (nodeAt t (os.getD n [])).leader)=true;rw [r2.2.2];exact beq_self_eq_true _
      | some e =>
        have h1:=List.mem_of_find?_eq_some hf;have h2':=List.find?_some hf;have h2:(e.1 == (nodeAt t (os.getD n [])).leader)=true:=h2';obtain ⟨i,hi,rfl⟩:=List.mem_map.1 h1;rw [List.mem_filter,List.mem_range] at hi;obtain ⟨hi1,hi2⟩:=hi;simp only [Bool.and_eq_true,decide_eq_true_eq] at hi2;have hl:(nodeAt t (os.getD i [])).leader=(nodeAt t (os.getD n [])).leader:=by simpa using h2
        have hs:SameC t os n i:=⟨hi2.1,hk,hl⟩;refine ⟨_,rfl,?_⟩;show (nodeAt t (os.getD i [])).path=_;have hin:repOf t os n=i:=(rep_same hs).trans hi2.2;rw [hin];have hgi:os.getD i []=os[i]'(by omega):=by rw [List.getD,List.getElem?_eq_getElem (by omega)];rfl
        exact (nodeAt_path (hp _ (by rw [hgi];exact List.getElem_mem _))).1
     obtain ⟨e,he1,he2⟩:=hsome;rw [he1]
     dsimp only
     have hm:memAt t os n=hardN (nodeAt t (os.getD n [])) e.2:=by unfold memAt;rw [if_neg hr,he2]
     have hfl:[n].filter (fun i => decide ((nodeAt t (os.getD i [])).kind=48) && decide (repOf t os i=i))=[]:=by
      rw [List.filter_cons_of_neg (by rw [decide_eq_false hr];simp),List.filter_nil]
     rw [hfl,List.map_nil,List.append_nil,List.map_cons,List.map_nil,hm]
   ·rw [if_neg hk]
    have hm:memAt t os n=(nodeAt t (os.getD n [])).mem:=by unfold memAt;rw [if_pos (rep_other hk)]
    have hfl:[n].filter (fun i => decide ((nodeAt t (os.getD i [])).kind=48) && decide (repOf t os i=i))=[]:=by
     rw [List.filter_cons_of_neg (by rw [decide_eq_false hk];simp),List.filter_nil]
    rw [hfl,List.map_nil,List.append_nil,List.map_cons,List.map_nil,hm]
theorem linksD_is (hp:∀ p ∈ os,p ∈ t.map (·.path)):linksD t os=(List.range os.length).map (memAt t os):=by
 have:=lkGo_is hp os.length (Nat.le_refl _);rw [List.take_of_length_le (Nat.le_refl _)] at this;unfold linksD;rw [this]
end
end Go.Proofs.YtfhelebejclalaaDoor.Lnk
end
section
namespace Go.Proofs.YtfhelebejclalaaDoor.Tre
open Go.ChangeShapes Go.WideShapes Go.ChangeAt Go.RowKit Base Byt Txt Bk Mem Go.Lib
set_option linter.unusedVariables false
set_option maxRecDepth 100000
theorem neqS (a b:List UInt8):((str a).toList == (str b).toList)=decide (a=b):=by
 rw [str_toList,str_toList]
 by_cases h:a=b<;>simp [h]
end Go.Proofs.YtfhelebejclalaaDoor.Tre
end
section
namespace Go.Proofs.YtfhelebejclalaaDoor.Lnk
open Go.ChangeShapes Go.WideShapes Go.ChangeAt Go.RowKit Base Byt Txt Bk Rec Block Mem Go.Proofs.YtfhelebejclalaaDoor.Mp Tre Go.Lib
set_option linter.unusedVariables false
set_option maxRecDepth 100000
abbrev LkF:=List (List UInt8 × List UInt8)
theorem getF_eq {F:LkF} {a:Nat} (ha:a < F.length):F.getD a ([],[])=F[a]:=by rw [List.getD,List.getElem?_eq_getElem ha];rfl
theorem getF_1 (F:LkF) (a:Nat):(F.map (·.1)).getD a []=(F.getD a ([],[])).1:=by
 rw [List.getD,List.getD,List.getElem?_map]
 cases F[a]?<;>rfl
theorem getF_2 (F:LkF) (a:Nat):(F.map (·.2)).getD a []=(F.getD a ([],[])).2:=by
 rw [List.getD,List.getD,List.getElem?_map]
 cases F[a]?<;>rfl
theorem findF_at {F:LkF} {a:Nat} {l:List UInt8} (ha:a < F.length) (h:(F.getD a ([],[])).1=l) (h0:∀ i,i < a → (F.getD i ([],[])).1≠l):F.find? (fun e => e.1 == l)=some (F.getD a ([],[])):=by
 rw [List.find?_eq_some_iff_getElem];refine ⟨by simpa using h,a,ha,(getF_eq ha).symm,fun j hj => ?_⟩
 have:=h0 j hj;rw [getF_eq (show j < F.length by omega)] at this
 simpa using this
theorem findF_not {F:LkF} {l:List UInt8} (h0:∀ i,i < F.length → (F.getD i ([],[])).1≠l):F.find? (fun e => e.1 == l)=none:=by
 rw [List.find?_eq_none];intro e he;obtain ⟨i,hi,rfl⟩:=List.mem_iff_getElem.1 he;have:=h0 i hi;rw [getF_eq hi] at this
 simpa using this
theorem own_two {w:World} {B n m:Nat} {v u:Value} {xs ys:List Value} (h1:w.ownsRow B 50 8 v n xs) (h2:w.ownsRow B 9 1 u m ys):∀ k,u.ownBlock=some k → v.ownBlock≠some k:=fun k hu hv => by
 rcases h1.2 with ⟨rfl,_⟩ | ⟨g,cap,cur,rfl,_,hg,_⟩
 ·cases hv
 ·rcases h2.2 with ⟨rfl,_⟩ | ⟨g',cap',cur',rfl,_,hg',_⟩
  ·cases hu
  ·have e1:g=k:=by simpa [Value.ownBlock] using hv
   have e2:g'=k:=by simpa [Value.ownBlock] using hu
   subst e1;subst e2;rw [hg] at hg';simp only [Option.some.injEq,Obj.cells.injEq] at hg';exact absurd hg'.2.1 (by decide)
structure MbI (w wr:World) (F:LkF) (ms:List MemV) (vo v6 v7:Value) (ys:List MP):Prop where
 bel:Below w.heap.size w wr
 out:wr.ownsRow w.heap.size 50 8 vo ys.length (flatM ys)
 same:ys.map MP.m=ms
 bod:∀ y ∈ ys,BodyAt w y
 led:wr.ownsRow w.heap.size 9 1 v6 F.length (flatS (F.map (·.1)))
 fst:wr.ownsRow w.heap.size 9 1 v7 F.length (flatS (F.map (·.2)))
 sep:∀ k,v6.ownBlock=some k → v7.ownBlock≠some k
section
variable {w wr w':World} {F:LkF} {ms:List MemV} {vo v6 v7:Value} {ys:List MP}
theorem MbI.below (h:MbI w wr F ms vo v6 v7 ys) (hb:Below wr.heap.size wr w'):MbI w w' F ms vo v6 v7 ys where
 bel:=h.bel.trans (hb.mono h.bel.size)
 out:=row_below h.out hb
 same:=h.same
 bod:=h.bod
 led:=row_below h.led hb
 fst:=row_below h.fst hb
 sep:=h.sep
theorem MbI.add (h:MbI w wr F ms vo v6 v7 ys) {y:MP} {m:MemV} (hy:y.m=m) (hb:BodyAt w y) {v':Value} (hrow:w'.ownsRow w.heap.size 50 8 v' (ys++[y]).length (flatM (ys++[y]))) (hg:wr.grownBy w' vo.ownBlock):MbI w w' F (ms++[m]) v' v6 v7 (ys++[y]):=by
 have hK:Kept (fun b => vo.ownBlock=some b) wr w':=(Kept.refl _ wr).grown hg (fun k hk => .inr hk)
 exact
 { bel:=h.bel.trans (hK.below h.bel.size (fun k hk => (World.ownsRow.lt h.out _ hk).1))
   out:=hrow
   same:=by rw [List.map_append,h.same,← hy];rfl
   bod:=fun x hx => by
    rcases List.mem_append.1 hx with hx | hx
    ·exact h.bod x hx
    ·rw [List.mem_singleton.1 hx];exact hb
   led:=ownsRow_kept h.led hK (fun k hk e => own_two h.out h.led k hk e)
   fst:=ownsRow_kept h.fst hK (fun k hk e => own_two h.out h.fst k hk e)
   sep:=h.sep }
theorem MbI.note (h:MbI w wr F ms vo v6 v7 ys) {u6 u7:Value} {e:List UInt8 × List UInt8} (hk:Kept (twoV v6 v7) wr w') (h6:w'.ownsRow w.heap.size 9 1 u6 (F.map (·.1)++[e.1]).length (flatS (F.map (·.1)++[e.1]))) (h7:w'.ownsRow w.heap.size 9 1 u7 (F.map (·.2)++[e.2]).length (flatS (F.map (·.2)++[e.2]))) (hs:∀ k,u6.ownBlock=some k → u7.ownBlock≠some k):MbI w w' (F++[e]) ms vo u6 u7 ys where
 bel:=h.bel.trans (hk.below h.bel.size (fun k hk => by
  rcases hk with hk | hk
  ·exact (World.ownsRow.lt h.led _ hk).1
  ·exact (World.ownsRow.lt h.fst _ hk).1))
 out:=ownsRow_kept h.out hk (fun k ho e => by
  rcases e with e | e
  ·exact own_two h.out h.led k e ho
  ·exact own_two h.out h.fst k e ho)
 same:=h.same
 bod:=h.bod
 led:=by
  rw [List.map_append,show (F++[e]).length=(F.map (·.1)++[e.1]).length by simp]
  exact h6
 fst:=by
  rw [List.map_append,show (F++[e]).length=(F.map (·.2)++[e.2]).length by simp]
  exact h7
 sep:=hs
theorem MbI.off (h:MbI w wr F ms vo v6 v7 ys) {b:Nat} {t:TypeId} {cs:Array Value} (ht:t≠9) (hb:Blk wr b t cs):¬ twoV v6 v7 b:=fun e => by
 have key:∀ {v:Value} {n:Nat} {xs:List Value},wr.ownsRow w.heap.size 9 1 v n xs → v.ownBlock≠some b:=fun {v n xs} ho e => by
  rcases ho.2 with ⟨rfl,_⟩ | ⟨g,cap,cur,rfl,_,hg,_⟩
  ·cases e
  ·have hgb:g=b:=by simpa [Value.ownBlock] using e
   subst hgb;unfold Blk at hb;rw [hg] at hb;simp only [Option.some.injEq,Obj.cells.injEq] at hb;exact ht hb.2.1.symm
 rcases e with e | e
 ·exact key h.led e
 ·exact key h.fst e
theorem MbI.box (h:MbI w wr F ms vo v6 v7 ys) {b:Nat} {cs:Array Value} (hb:Blk wr b 50 cs) (hlo:w.heap.size≤b∧vo.ownBlock≠some b) (hk:Kept (oneB b) wr w'):MbI w w' F ms vo v6 v7 ys where
 bel:=h.bel.trans (hk.below h.bel.size (fun k hk => by rw [show k=b from hk];exact hlo.1))
 out:=ownsRow_kept h.out hk (fun k ho e => hlo.2 (by rw [ho,show k=b from e]))
 same:=h.same
 bod:=h.bod
 led:=ownsRow_kept h.led hk (fun k ho e => h.off (t:=50) (by decide) hb (.inl (by rw [ho,show k=b from e])))
 fst:=ownsRow_kept h.fst hk (fun k ho e => h.off (t:=50) (by decide) hb (.inr (by rw [ho,show k=b from e])))
 sep:=h.sep
end
theorem body_hard (w:World) (x:NodeV) (p:List UInt8):BodyAt w ⟨hardN x p,none,0⟩:=⟨BAt.none_ w none,Nat.le_refl _,Nat.zero_le _⟩
def RMemPost (w:World) (m:Nat) (ms:List MemV) (e:Ending) (w':World):Prop:=∃ q d ys,e=.returned (.slice q m d)∧ys.map MP.m=ms∧MemsAt w' q m ys∧m≤d∧d≤maxLen∧Below w.heap.size w w'
set_option maxHeartbeats 8000000 in
theorem rmembers_any (p:Option Addr) (n c:Nat) (xs:List NP) (a1:Option Addr) (m d1:Nat) (os:List (List UInt8)) (w:World) (h:NodesAt w p n xs) (hn:n≤maxLen) (ho:StrsAt w a1 m os) (hm:m≤1000) :
 Calls Tryd.prog 15 #[.slice p n c,.slice a1 m d1] w (RMemPost w m (linksD (xs.map NP.m) os)):=by
 have HM:=Lib.hid h;have HO:=Lib.hid ho;have HLO:=Lib.hid ho.1;have HN:=Lib.hid hn;clear h ho hn
 go_enter Tryd.func15,Tryd.ntmps15
 go_wp2_with fail
 go_loopw [5,6,7,8,9,10,11,12] (fun o l f i _ _ _ _ wr => ∃ (k:Nat) (F:LkF) (ms:List MemV) (ys:List MP) (vo v6 v7:Value),k≤m∧vo=o∧v6=l∧v7=f∧i=.int .i64 (k:Int)∧Hid (lkGo (xs.map NP.m) (os.take k)=⟨F,ms⟩)∧Hid (ms.length=k∧F.length≤k)∧Hid (MbI w wr F ms vo v6 v7 ys)) (fun _ _ _ i _ _ _ _ _ => m - (RowKit.intOf i).toNat)
 case atStart => exact ⟨0,[],[],[],_,_,_,Nat.zero_le _,rfl,rfl,rfl,rfl,Lib.hid rfl,Lib.hid ⟨rfl,Nat.le_refl _⟩,Lib.hid ⟨Below.refl _ _,World.ownsRow_nil _ _ _ _,rfl,fun y hy => (by cases hy),World.ownsRow_nil _ _ _ _,World.ownsRow_nil _ _ _ _,fun k hk => (by cases hk)⟩⟩
 case round =>
  obtain ⟨k,F,ms,ys,o,v6,v7,hk,rfl,rfl,rfl,rfl,hS,hL,hI⟩:=hrel;obtain ⟨wo,rfl⟩:∃ x,x=wr:=⟨_,rfl⟩
  by_cases hlt:k < m
  ·have hltz:(k:Int) < (m:Int):=by omega
   obtain ⟨bo,oo,rfl,hbo,hco⟩:=(HO.out.below hI.out.bel).2 (by omega)
   have hc:=hco k hlt;obtain ⟨pt,hpt⟩:∃ pt,os.getD k []=pt:=⟨_,rfl⟩;rw [hpt] at hc
   have HSN:Hid (lkGo (xs.map NP.m) (os.take (k+1))=lkStep (xs.map NP.m) ⟨F,ms⟩ pt):=Lib.hid (by
    have hkl:k < os.length:=by rw [HLO.out];exact hlt
    rw [List.take_succ_eq_append_getElem hkl,lkGo_snoc,hS.out,← hpt,List.getD,List.getElem?_eq_getElem hkl]
    rfl)
   have hr:=rfind_any p n c xs pt wo (HM.out.below hI.out.bel) HN.out;unfold RFindPost at hr;have HFI:=Lib.hid hr;clear hr hco hbo hpt
   go_wp2_with fail
   refine HFI.out.mono ?_
   rintro e w2 ⟨u,rfl,hu,hui,hb2⟩;have hub:=of_bod HM.out hui;have hun:u.m=nodeAt (xs.map NP.m) pt:=hu;have HU:=Lib.hid (And.intro hun hub);obtain ⟨ob,hob⟩:∃ ob,(findN (xs.map NP.m) pt).isSome=ob:=⟨_,rfl⟩;rw [hob];have HI2:=Lib.hid (hI.out.below hb2);clear hu hui hub hun hob hb2 HFI hc;unfold NP.cs nodC
   go_upto_region 8 with fail
   obtain ⟨w3,hw3⟩:∃ w3,(w2.alloc (.cells #[.string (str u.m.path),.string (str u.m.target),.string (str u.m.leader),.int .u8 (u.m.kind.toNat:Int),.int .i64 u.m.mode,.int .i64 u.m.uid,.int .i64 u.m.gid,.int .i64 u.m.time,.slice u.p u.m.body.length u.c] 45)).alloc (.cells #[.string (str u.m.path),.string (str u.m.target),.int .u8 (u.m.kind.toNat:Int),.int .i64 u.m.mode,.int .i64 u.m.uid,.int .i64 u.m.gid,.int .i64 u.m.time,.slice u.p u.m.body.length u.c] 50)=w3:=⟨_,rfl⟩;have hx3:Blk w3 w2.heap.size 45 #[.string (str u.m.path),.string (str u.m.target),.string (str u.m.leader),.int .u8 (u.m.kind.toNat:Int),.int .i64 u.m.mode,.int .i64 u.m.uid,.int .i64 u.m.gid,.int .i64 u.m.time,.slice u.p u.m.body.length u.c]:=by rw [← hw3];exact (Blk.new w2 _ _).alloc _
   have hm3:Blk w3 (w2.heap.size+1) 50 #[.string (str u.m.path),.string (str u.m.target),.int .u8 (u.m.kind.toNat:Int),.int .i64 u.m.mode,.int .i64 u.m.uid,.int .i64 u.m.gid,.int .i64 u.m.time,.slice u.p u.m.body.length u.c]:=by
    rw [← hw3,← World.size_alloc w2 (.cells #[.string (str u.m.path),.string (str u.m.target),.string (str u.m.leader),.int .u8 (u.m.kind.toNat:Int),.int .i64 u.m.mode,.int .i64 u.m.uid,.int .i64 u.m.gid,.int .i64 u.m.time,.slice u.p u.m.body.length u.c] 45)];exact Blk.new _ _ _
   have h23:Below w2.heap.size w2 w3:=by rw [← hw3];exact ((Below.refl _ _).alloc (Nat.le_refl _) _).alloc (by rw [World.size_alloc];exact Nat.le_succ _) _
   rw [hw3];have HX3:=Lib.hid hx3;have HM3:=Lib.hid hm3;have HI3:=Lib.hid (HI2.out.below h23);have HLO3:Hid (w.heap.size≤w2.heap.size+1∧o.ownBlock≠some (w2.heap.size+1)):=Lib.hid ⟨Nat.le_succ_of_le HI2.out.bel.size,fun e => by have:=(World.ownsRow.lt HI2.out.out _ e).2;omega⟩
   have x3:=hx3.cell 3;simp only [List.getElem?_toArray,List.getElem?_cons_zero,List.getElem?_cons_succ] at x3;have ek:=kind_ne1 u.m.kind 48 48 rfl;obtain ⟨kn,hkn⟩:∃ kn:Int,(u.m.kind.toNat:Int)=kn:=⟨_,rfl⟩;rw [hkn] at x3 ek;clear hw3 hx3 hm3 h23 HI2 hkn
   by_cases h48:u.m.kind=48
   ·rw [decide_eq_true h48] at ek
    have H48:=Lib.hid h48
    have HST:Hid (lkStep (xs.map NP.m) ⟨F,ms⟩ pt=match F.find? (fun e => e.1 == u.m.leader) with | some e => ⟨F,ms++[hardN u.m e.2]⟩ | none => ⟨F++[(u.m.leader,u.m.path)],ms++[u.m.mem]⟩):=Lib.hid (by
     unfold lkStep
     dsimp only
     rw [← HU.out.1,if_pos H48.out]
     all_goals (cases F.find? (fun e => e.1 == u.m.leader)<;>rfl))
    clear h48
    go_wp2_with fail
    clear x3 ek
    go_loopw [12] (fun j wz => ∃ (a:Nat),a≤F.length∧j=.int .i64 (a:Int)∧Hid (∀ i,i < a → (F.getD i ([],[])).1≠u.m.leader)∧Hid (Below w3.heap.size w3 wz)) (fun j _ => F.length - (RowKit.intOf j).toNat)
    case atStart => exact ⟨0,Nat.zero_le _,rfl,Lib.hid (fun i h => absurd h (by omega)),Lib.hid (Below.refl _ _)⟩
    case round =>
     obtain ⟨a,ha,rfl,hN,hB⟩:=hrel;have HIz:=Lib.hid (HI3.out.below hB.out);have HXz:=Lib.hid (HX3.out.below hB.out HX3.out.lt);have HMz:=Lib.hid (HM3.out.below hB.out HM3.out.lt);have hl6:(F.map (·.1)).length=F.length:=List.length_map ..
     have hled:=HIz.out.led;rw [← hl6] at hled;obtain ⟨q6,c6,hv6,h61,h62,h63⟩:=strs_own hled;rw [hl6] at hv6 h61 h63;subst hv6;have x2:=HXz.out.cell 2;simp only [List.getElem?_toArray,List.getElem?_cons_zero,List.getElem?_cons_succ] at x2;have hF1000:F.length≤1000:=by have:=hL.out.2;omega
     by_cases hal:a < F.length
     ·obtain ⟨b6,o6,rfl,hb6,hc6⟩:=h63.2 (by omega)
      have d0:=hc6 a (by omega)
      rw [getF_1] at d0;have e1:=neqS (F.getD a ([],[])).1 u.m.leader;obtain ⟨fl,hfl⟩:∃ fl,(F.getD a ([],[])).1=fl:=⟨_,rfl⟩;have HFL:=Lib.hid hfl;rw [hfl] at d0 e1;have halz:(a:Int) < (F.length:Int):=by omega
      clear hc6 hfl h61 h62 hl6 h63 hb6 hled
      by_cases hef:fl=u.m.leader
      ·rw [decide_eq_true hef] at e1
       have HFD:Hid (F.find? (fun e => e.1 == u.m.leader)=some (F.getD a ([],[]))):=Lib.hid (findF_at hal (by rw [HFL.out];exact hef) hN.out)
       clear hef
       go_upto_region 10 with fail
       go_quiet (fail)
       have hl7:(F.map (·.2)).length=F.length:=List.length_map ..
       have hfst:=HIz.out.fst;rw [← hl7] at hfst;obtain ⟨q7,c7,hv7,h71,h72,h73⟩:=strs_own hfst;rw [hl7] at hv7 h71 h73;subst hv7;obtain ⟨b7,o7,rfl,hb7,hc7⟩:=h73.2 (by omega)
       have g0:=hc7 a (by omega)
       rw [getF_2] at g0;obtain ⟨ft,hft⟩:∃ ft,(F.getD a ([],[])).2=ft:=⟨_,rfl⟩;rw [hft] at g0;have HFT:=Lib.hid hft;have hne:b7≠w2.heap.size+1:=fun e => HIz.out.off (t:=50) (by decide) HMz.out (.inr (by rw [← e];rfl))
       have f1:=HMz.out.frozen 1;have f2:=HMz.out.frozen 2;have f7:=HMz.out.frozen 7;have m1:=HMz.out.cell 1;have m2:=HMz.out.cell 2;have m7:=HMz.out.cell 7;simp only [List.getElem?_toArray,List.getElem?_cons_zero,List.getElem?_cons_succ] at m1 m2 m7;clear hc7 hft h71 h72 hl7 h73 hb7 hfst d0 e1 x2
       go_upto_region 13 with fail
       go_region
       go_upto_region 15 with fail
       obtain ⟨wq,hwq⟩:∃ wq,World.drewN wr (nq+1)=wq:=⟨_,rfl⟩;obtain ⟨wT,hwT⟩:∃ wT,((wq.setCell ⟨w2.heap.size+1,2,none⟩ (.int .u8 49)).setCell ⟨w2.heap.size+1,1,none⟩ (.string (str ft))).setCell ⟨w2.heap.size+1,7,none⟩ (.slice none 0 0)=wT:=⟨_,rfl⟩;have hmq:Blk wq (w2.heap.size+1) 50 #[.string (str u.m.path),.string (str u.m.target),.int .u8 (u.m.kind.toNat:Int),.int .i64 u.m.mode,.int .i64 u.m.uid,.int .i64 u.m.gid,.int .i64 u.m.time,.slice u.p u.m.body.length u.c]:=by rw [← hwq];exact HMz.out.drewN _
       have HMT:Hid (Blk wT (w2.heap.size+1) 50 #[.string (str u.m.path),.string (str ft),.int .u8 49,.int .i64 u.m.mode,.int .i64 u.m.uid,.int .i64 u.m.gid,.int .i64 u.m.time,.slice none 0 0]):=Lib.hid (by
        rw [← hwT]
        exact ((hmq.set 2 (.int .u8 49) (by decide:2 < 8)).set 1 (.string (str ft)) (by show 1 < 8;decide)).set 7 (.slice none 0 0) (by show 7 < 8;decide))
       have HKT:Hid (Kept (oneB (w2.heap.size+1)) wr wT):=Lib.hid (by
        rw [← hwT,← hwq]
        exact (((((Kept.refl (oneB (w2.heap.size+1)) wr).drewN _).setCell (a:=⟨w2.heap.size+1,2,none⟩) (.inr rfl) _).setCell (a:=⟨w2.heap.size+1,1,none⟩) (.inr rfl) _).setCell (a:=⟨w2.heap.size+1,7,none⟩) (.inr rfl) _))
       have HIT:=Lib.hid (HIz.out.box HMz.out HLO3.out HKT.out);rw [hwq,hwT];have HS2:Hid (lkGo (xs.map NP.m) (os.take (k+1))=⟨F,ms++[hardN u.m ft]⟩):=Lib.hid (by rw [HSN.out,HST.out,HFD.out,← HFT.out])
       clear hwq hwT hmq f1 f2 f7 m1 m2 m7 g0 hne;have m0:=HMT.out.cell 0;have m1:=HMT.out.cell 1;have m2:=HMT.out.cell 2;have m3:=HMT.out.cell 3;have m4:=HMT.out.cell 4;have m5:=HMT.out.cell 5;have m6:=HMT.out.cell 6;have m7:=HMT.out.cell 7;simp only [List.getElem?_toArray,List.getElem?_cons_zero,List.getElem?_cons_succ] at m0 m1 m2 m3 m4 m5 m6 m7
       have HYL:Hid (ys.length=k):=Lib.hid (by
        have h1:=congrArg List.length hI.out.same;rw [List.length_map] at h1
        exact h1.trans hL.out.1)
       go_wp2_with (at_builtin;refine append_member rfl _ _ rfl w.heap.size o ys rfl (row_below HIT.out.out ((Below.refl _ _).alloc (Nat.le_refl _) _)) wT.heap.size 1 ⟨hardN u.m ft,none,0⟩ rfl (Blk.new wT _ _) (by have:=HYL.out;omega) (by have:=HIT.out.bel.size;first | omega | (simp;omega)) ?_)
       intro v9 w9 hrow hg hnw;rw [show ys.length+1=(ys++[(⟨hardN u.m ft,none,0⟩:MP)]).length by simp] at hrow
       have HIN:=Lib.hid ((HIT.out.below ((Below.refl _ _).alloc (Nat.le_refl _) _)).add (y:=⟨hardN u.m ft,none,0⟩) (m:=hardN u.m ft) rfl (body_hard w u.m ft) hrow hg);have HLN:Hid ((ms++[hardN u.m ft]).length=k+1∧F.length≤k+1):=Lib.hid ⟨by rw [List.length_append,hL.out.1];rfl,(by have:=hL.out.2;omega)⟩
       clear hrow hg hnw m0 m1 m2 m3 m4 m5 m6 m7
       go_wp2
       go_roundw
       case rel => exact ⟨k+1,F,_,_,_,_,_,by omega,rfl,rfl,rfl,by go_num,HS2,HLN,HIN⟩
       case measure => simp [RowKit.intOf];omega
      ·rw [decide_eq_false hef] at e1
       have HN2:Hid (∀ i,i < a+1 → (F.getD i ([],[])).1≠u.m.leader):=Lib.hid (fun i hi => by
        by_cases h1:i=a
        ·rw [h1,HFL.out];exact hef
        ·exact hN.out i (by omega))
       clear hef
       go_upto_region 10 with fail
       go_quiet (fail)
       go_wp2
       go_roundw
       case rel => exact ⟨a+1,by omega,by go_num,HN2,Lib.hid (below_drewN hB.out _)⟩
       case measure => simp [RowKit.intOf];omega
     ·have hae:a=F.length:=by omega
      have HFD:Hid (F.find? (fun e => e.1 == u.m.leader)=none):=Lib.hid (findF_not (fun i hi => hN.out i (by omega)))
      have halz:decide ((a:Int) < (F.length:Int))=false:=decide_eq_false (by omega)
      have halz2:¬ ((a:Int) < (F.length:Int)):=by omega
      clear h61 h62 h63 hled hl6
      go_upto_region 10 with fail
      go_quiet (fail)
      clear x2
      go_upto_region 14 with fail
      have HB14:=Lib.hid (below_drewN hB.out nq);have HI14:=Lib.hid (HI3.out.below HB14.out);have HX14:=Lib.hid (HX3.out.below HB14.out HX3.out.lt);have HM14:=Lib.hid (HM3.out.below HB14.out HM3.out.lt);refine wp_region_any (by kernel_rfl) (wpAny_opsL (ops':=m14Ops) (by kernel_rfl) ?_)
      refine m14_region (w1:=wr.drewN nq) w.heap.size w2.heap.size _ v7 (F.map (·.1)) (F.map (·.2)) u.m.leader u.m.path _ ?a1 ?a2 ?a3 ?a4 HX14.out rfl rfl (by rw [List.length_map];exact HI14.out.led) (by rw [List.length_map];exact HI14.out.fst) HI14.out.sep (by rw [List.length_map];exact hF1000) (by rw [List.length_map];exact hF1000) HI14.out.bel.size ?_
      case a1 => exact Nat.le_refl 83
      case a2 => rfl
      case a3 => rfl
      case a4 => rfl
      intro γ w5 hk5 hr6 hr7 hs5;obtain ⟨u6,u7,gc,gd⟩:=γ;have HI5:=Lib.hid (HI14.out.note (e:=(u.m.leader,u.m.path)) hk5 hr6 hr7 hs5);have HM5:=Lib.hid (HM14.out.keptS hk5 (HI14.out.off (t:=50) (by decide) HM14.out))
      have HS2:Hid (lkGo (xs.map NP.m) (os.take (k+1))=⟨F++[(u.m.leader,u.m.path)],ms++[u.m.mem]⟩):=Lib.hid (by rw [HSN.out,HST.out,HFD.out])
      clear hk5 hr6 hr7 hs5;simp only [Act.put,List.setIfInBounds_toArray,List.set_cons_zero,List.set_cons_succ];have m0:=HM5.out.cell 0;have m1:=HM5.out.cell 1;have m2:=HM5.out.cell 2;have m3:=HM5.out.cell 3;have m4:=HM5.out.cell 4;have m5:=HM5.out.cell 5;have m6:=HM5.out.cell 6;have m7:=HM5.out.cell 7;simp only [List.getElem?_toArray,List.getElem?_cons_zero,List.getElem?_cons_succ] at m0 m1 m2 m3 m4 m5 m6 m7
      have HYL:Hid (ys.length=k):=Lib.hid (by
       have h1:=congrArg List.length hI.out.same;rw [List.length_map] at h1
       exact h1.trans hL.out.1)
      go_wp2_with (at_builtin;refine append_member rfl _ _ rfl w.heap.size o ys rfl (row_below HI5.out.out ((Below.refl _ _).alloc (Nat.le_refl _) _)) w5.heap.size 1 ⟨u.m.mem,u.p,u.c⟩ rfl (Blk.new w5 _ _) (by have:=HYL.out;omega) (by have:=HI5.out.bel.size;first | omega | (simp;omega)) ?_)
      intro v9 w9 hrow hg hnw;rw [show ys.length+1=(ys++[(⟨u.m.mem,u.p,u.c⟩:MP)]).length by simp] at hrow
      have HIN:=Lib.hid ((HI5.out.below ((Below.refl _ _).alloc (Nat.le_refl _) _)).add (y:=⟨u.m.mem,u.p,u.c⟩) (m:=u.m.mem) rfl ⟨HU.out.2.bat,HU.out.2.le,HU.out.2.mx⟩ hrow hg);have HLN:Hid ((ms++[u.m.mem]).length=k+1∧(F++[(u.m.leader,u.m.path)]).length≤k+1):=Lib.hid ⟨by rw [List.length_append,hL.out.1];rfl,(by rw [List.length_append];have:=hL.out.2;simp only [List.length_cons,List.length_nil];omega)⟩
      clear hrow hg hnw m0 m1 m2 m3 m4 m5 m6 m7
      go_wp2
      go_roundw
      case rel => exact ⟨k+1,(F++[(u.m.leader,u.m.path)]),_,_,_,_,_,by omega,rfl,rfl,rfl,by go_num,HS2,HLN,HIN⟩
      case measure => simp [RowKit.intOf];omega
   ·rw [decide_eq_false h48] at ek
    have HS2:Hid (lkGo (xs.map NP.m) (os.take (k+1))=⟨F,ms++[u.m.mem]⟩):=Lib.hid (by
     rw [HSN.out];unfold lkStep
     dsimp only
     rw [← HU.out.1,if_neg h48])
    clear h48;have m0:=HM3.out.cell 0;have m1:=HM3.out.cell 1;have m2:=HM3.out.cell 2;have m3:=HM3.out.cell 3;have m4:=HM3.out.cell 4;have m5:=HM3.out.cell 5;have m6:=HM3.out.cell 6;have m7:=HM3.out.cell 7;simp only [List.getElem?_toArray,List.getElem?_cons_zero,List.getElem?_cons_succ] at m0 m1 m2 m3 m4 m5 m6 m7
    have HYL:Hid (ys.length=k):=Lib.hid (by
     have h1:=congrArg List.length hI.out.same;rw [List.length_map] at h1
     exact h1.trans hL.out.1)
    go_wp2_with (at_builtin;refine append_member rfl _ _ rfl w.heap.size o ys rfl (row_below HI3.out.out ((Below.refl _ _).alloc (Nat.le_refl _) _)) w3.heap.size 1 ⟨u.m.mem,u.p,u.c⟩ rfl (Blk.new w3 _ _) (by have:=HYL.out;omega) (by have:=HI3.out.bel.size;first | omega | (simp;omega)) ?_)
    intro v9 w9 hrow hg hnw;rw [show ys.length+1=(ys++[(⟨u.m.mem,u.p,u.c⟩:MP)]).length by simp] at hrow
    have HIN:=Lib.hid ((HI3.out.below ((Below.refl _ _).alloc (Nat.le_refl _) _)).add (y:=⟨u.m.mem,u.p,u.c⟩) (m:=u.m.mem) rfl ⟨HU.out.2.bat,HU.out.2.le,HU.out.2.mx⟩ hrow hg);have HLN:Hid ((ms++[u.m.mem]).length=k+1∧F.length≤k+1):=Lib.hid ⟨by rw [List.length_append,hL.out.1];rfl,(by have:=hL.out.2;omega)⟩
    clear hrow hg hnw m0 m1 m2 m3 m4 m5 m6 m7
    go_wp2
    go_roundw
    case rel => exact ⟨k+1,F,_,_,_,_,_,by omega,rfl,rfl,rfl,by go_num,HS2,HLN,HIN⟩
    case measure => simp [RowKit.intOf];omega
  ·have hks:¬ ((k:Int) < (m:Int)):=by omega
   have e:os.take k=os:=List.take_of_length_le (by rw [HLO.out];omega)
   have hs:=hS.out;rw [e] at hs;have HE:Hid (linksD (xs.map NP.m) os=ms):=Lib.hid (by unfold linksD;rw [hs])
   have hyl:ys.length=m:=by
    have h1:=congrArg List.length hI.out.same;rw [List.length_map] at h1;have:=hL.out.1;omega
   obtain ⟨q,d,rfl,hd1,hd2,hmm⟩:=mems_own hI.out.out (fun y hy => (hI.out.bod y hy).below hI.out.bel)
   rw [hyl] at hd1 hmm ⊢;have HMM:=Lib.hid (And.intro hmm (And.intro hd1 hd2));clear e hs hyl hd1 hd2 hmm
   go_wp2
   go_ret
   exact ⟨q,d,ys,rfl,by rw [HE.out];exact hI.out.same,HMM.out.1,HMM.out.2.1,HMM.out.2.2,hI.out.bel⟩
end Go.Proofs.YtfhelebejclalaaDoor.Lnk
end
