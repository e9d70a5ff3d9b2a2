/- Texts of this seat, merged: what the proof reaches. -/
import Derived.Test.YtfhelebejclalaaDoorLinksFirstX6
import Derived.Test.YtfhelebejclalaaDoorLinksFirstX19
import Derived.Deep.DeepCutAuto
import Derived.Carry
import Derived.StillTailTactics
import Derived.Laws.ResultCell
import Derived.Test.YtfhelebejclalaaDoorLinksFirstX20
import Derived.Test.YtfhelebejclalaaDoorLinksFirstX16
import Derived.Laws.StructEq
import Derived.BigQuiet
namespace Go.Proofs.YtfhelebejclalaaDoor
namespace Base
end Base
namespace Bk
end Bk
namespace Block
end Block
namespace Byt
end Byt
namespace Mem
end Mem
namespace Mk
end Mk
namespace Mp
end Mp
namespace Rec
end Rec
namespace Tre
end Tre
namespace Txt
end Txt
end Go.Proofs.YtfhelebejclalaaDoor
section
namespace Go.Proofs.YtfhelebejclalaaDoor.Tre
open Go.ChangeShapes Go.WideShapes Go.ChangeAt Go.RowKit Base Byt Txt Bk Mk Mem Go.Lib
set_option linter.unusedVariables false
set_option maxRecDepth 100000
theorem kind_ne1 (k:UInt8) (n:UInt8) (z:Int) (hz:(n.toNat:Int)=z):(((k.toNat:Int)) == z)=decide (k=n):=by
 subst hz
 by_cases h:k=n
 ·simp [h]
 ·have:¬ k.toNat=n.toNat:=fun hh => h (UInt8.toNat.inj hh)
  simp only [h,decide_false,beq_eq_false_iff_ne,ne_eq];omega
theorem kind_nq1 (k:UInt8) (n:UInt8) (z:Int) (hz:(n.toNat:Int)=z):(((k.toNat:Int)) != z)=!decide (k=n):=by
 rw [← kind_ne1 k n z hz];rfl
def numsK (f:List UInt8 → Option Nat):List UInt8 → Option Value:=fun x => (f x).map fun n => .int .i64 (n:Int)
structure LayAt (W:World) (g B:Nat) (p:Option Addr) (n c:Nat) (f:List UInt8 → Option Nat):Prop where
 obj:Blk W g 78 #[.slice p n c,.map (some B)]
 map:MapK strK W B (numsK f)
theorem blk_not_map {W:World} {g B:Nat} {t:TypeId} {cs:Array Value} {α:Type} {K:Keying α} {f:α → Option Value} (h:Blk W g t cs) (hm:MapK K W B f):g≠B:=fun e => by
 obtain ⟨es,clock,hb,_⟩:=hm;subst e;have h':W.heap[g]? = some (.cells cs t (0,0)):=h;rw [h'] at hb
 cases hb
theorem LayAt.below {W W':World} {g B:Nat} {p:Option Addr} {n c:Nat} {f:List UInt8 → Option Nat} (h:LayAt W g B p n c f) (hb:Below W.heap.size W W'):LayAt W' g B p n c f:=
 ⟨h.obj.below hb h.obj.lt,h.map.kept (Kept.of_below hb noneB) (fun h => h.elim)⟩
def InS (S:St) (N:Nat):Prop:=∀ e ∈ S,e.2 < N
theorem InS.look {S:St} {N:Nat} (h:InS S N) {x:List UInt8} {n:Nat} (hl:look S x=some n):n < N:=by
 unfold Tre.look at hl;rw [Option.map_eq_some_iff] at hl;obtain ⟨e,he,rfl⟩:=hl;exact h e (List.mem_of_find?_eq_some he)
theorem InS.put {S:St} {N:Nat} (h:InS S N) {p:List UInt8} {n:Nat} (hn:n < N):InS (putS S p n) N:=fun e he => by
 unfold putS at he;rw [List.mem_append,List.mem_filter] at he;rcases he with he | he
 ·exact h e he.1
 ·rw [List.mem_singleton.1 he];exact hn
end Go.Proofs.YtfhelebejclalaaDoor.Tre
end
section
namespace Go.Proofs.YtfhelebejclalaaDoor.Tre
open Mem
set_option linter.unusedVariables false
def Apart (S:St):Prop:=(S.map (·.1)).Nodup
theorem Apart.put {S:St} (h:Apart S) (p:List UInt8) (n:Nat):Apart (putS S p n):=by
 unfold Apart putS at *;rw [List.map_append,List.nodup_append];refine ⟨(List.Sublist.nodup (List.Sublist.map _ (List.filter_sublist)) h),by simp,?_⟩
 intro a ha b hb;simp only [List.map_cons,List.map_nil,List.mem_singleton] at hb;subst hb;rw [List.mem_map] at ha;obtain ⟨e,he,rfl⟩:=ha;rw [List.mem_filter] at he
 simpa using he.2
def firstAt (T:St) (n:Nat):Option Nat:=T.findIdx? fun e => e.2 == n
def leads (ms:List MemV) (T:St) (k n:Nat):Option Nat:=if (ms.getD n zeroMv).kind=48 then firstAt (T.take k) n else none
end Go.Proofs.YtfhelebejclalaaDoor.Tre
end
section
namespace Go.Proofs.YtfhelebejclalaaDoor.Tre
open Go.ChangeShapes Go.WideShapes Go.ChangeAt Go.RowKit Base Byt Txt Bk Mk Mem Go.Lib
set_option linter.unusedVariables false
set_option maxRecDepth 100000
theorem putS_len (S:St) (p:List UInt8) (n:Nat):(putS S p n).length≤S.length+1:=by
 unfold putS;rw [List.length_append];have:=List.length_filter_le (fun e:List UInt8 × Nat => !(e.1 == p)) S
 simpa using this
structure OkS (ms:List MemV) (S:St) (k:Nat):Prop where
 len:S.length≤k
 from_:∀ e ∈ S,∃ j,j < k∧e.1=(ms.getD j zeroMv).path
theorem OkS.put {ms:List MemV} {S:St} {k:Nat} (h:OkS ms S k) (n:Nat):OkS ms (putS S (ms.getD k zeroMv).path n) (k+1):=by
 refine ⟨Nat.le_trans (putS_len _ _ _) (Nat.succ_le_succ h.len),fun e he => ?_⟩
 unfold putS at he;rw [List.mem_append,List.mem_filter] at he;rcases he with he | he
 ·obtain ⟨j,hj,e2⟩:=h.from_ e he.1
  exact ⟨j,by omega,e2⟩
 ·rw [List.mem_singleton.1 he]
  exact ⟨k,by omega,rfl⟩
theorem OkS.lay {ms:List MemV} {S S':St} {k:Nat} (h:OkS ms S k) (hl:layD ms S k=some S'):OkS ms S' (k+1):=by
 unfold layD at hl
 dsimp only at hl
 split at hl
 ·split at hl
  ·cases hl
  ·split at hl
   ·cases hl;exact h.put _
   ·cases hl
 ·cases hl;exact h.put _
end Go.Proofs.YtfhelebejclalaaDoor.Tre
end
section
namespace Go.Proofs.YtfhelebejclalaaDoor.Tre
open Mem
set_option linter.unusedVariables false
theorem good_clean {m:MemV} (h:goodD m=true):cleanOk m.path=true:=by
 unfold goodD at h;simp only [Bool.and_eq_true] at h;exact h.1.1.1.1
def StG (ms:List MemV) (S:St):Prop:=∀ e ∈ S,e.2 < ms.length∧(ms.getD e.2 zeroMv).kind≠49∧cleanOk e.1=true
theorem StG.put {ms:List MemV} {S:St} (h:StG ms S) {p:List UInt8} {n:Nat} (hn:n < ms.length) (hk:(ms.getD n zeroMv).kind≠49) (hp:cleanOk p=true):StG ms (putS S p n):=by
 intro e he;unfold putS at he;rw [List.mem_append,List.mem_filter] at he;rcases he with he | he
 ·exact h e he.1
 ·rw [List.mem_singleton.1 he]
  exact ⟨hn,hk,hp⟩
end Go.Proofs.YtfhelebejclalaaDoor.Tre
end
section
namespace Go.Proofs.YtfhelebejclalaaDoor.Lnk
open Mem Tre
set_option linter.unusedVariables false
def hardN (x:NodeV) (p:List UInt8):MemV:=⟨x.path,p,49,x.mode,x.uid,x.gid,x.time,[]⟩
def nodeAt (t:List NodeV) (p:List UInt8):NodeV:=(findN t p).getD zeroN
structure LkS where
 led:List (List UInt8 × List UInt8)
 out:List MemV
def lkStep (t:List NodeV) (s:LkS) (p:List UInt8):LkS:=
 let x:=nodeAt t p
 if x.kind=48 then
  match s.led.find? (fun e => e.1 == x.leader) with
  | some e => ⟨s.led,s.out++[hardN x e.2]⟩
  | none => ⟨s.led++[(x.leader,x.path)],s.out++[x.mem]⟩
 else ⟨s.led,s.out++[x.mem]⟩
def lkGo (t:List NodeV) (order:List (List UInt8)):LkS:=order.foldl (lkStep t) ⟨[],[]⟩
def linksD (t:List NodeV) (order:List (List UInt8)):List MemV:=(lkGo t order).out
theorem lkGo_snoc (t:List NodeV) (os:List (List UInt8)) (p:List UInt8):lkGo t (os++[p])=lkStep t (lkGo t os) p:=by
 unfold lkGo;rw [List.foldl_append];rfl
def OrderOf (t:List NodeV) (os:List (List UInt8)):Prop:=os.Perm (t.map (·.path))
def repOf (t:List NodeV) (os:List (List UInt8)) (i:Nat):Nat:=
 if (nodeAt t (os.getD i [])).kind=48 then
  ((List.range (i+1)).find? fun j => decide ((nodeAt t (os.getD j [])).kind=48) && decide ((nodeAt t (os.getD j [])).leader=(nodeAt t (os.getD i [])).leader)).getD i
 else i
section
variable {t:List NodeV} {os:List (List UInt8)}
def SameC (t:List NodeV) (os:List (List UInt8)) (i j:Nat):Prop:=(nodeAt t (os.getD j [])).kind=48∧(nodeAt t (os.getD i [])).kind=48∧(nodeAt t (os.getD j [])).leader=(nodeAt t (os.getD i [])).leader
theorem rep_file {i:Nat} (h:(nodeAt t (os.getD i [])).kind=48):repOf t os i≤i∧SameC t os i (repOf t os i) ∧ ∀ j,j < repOf t os i → ¬ SameC t os i j:=by
 unfold repOf;rw [if_pos h]
 cases hf:(List.range (i+1)).find? (fun j => decide ((nodeAt t (os.getD j [])).kind=48) && decide ((nodeAt t (os.getD j [])).leader=(nodeAt t (os.getD i [])).leader)) with
 | none =>
   have:=List.find?_eq_none.1 hf i (List.mem_range.2 (Nat.lt_succ_self _));rw [decide_eq_true h,decide_eq_true rfl] at this;exact absurd rfl this
 | some j =>
   obtain ⟨h1,k,hk,e,h2⟩:=List.find?_eq_some_iff_getElem.1 hf;rw [List.getElem_range] at e;rw [List.length_range] at hk;subst e;simp only [Bool.and_eq_true,decide_eq_true_eq] at h1;refine ⟨by rw [Option.getD_some];omega,⟨by rw [Option.getD_some];exact h1.1,h,by rw [Option.getD_some];exact h1.2⟩,fun j hj hs => ?_⟩
   rw [Option.getD_some] at hj;have:=h2 j hj;rw [List.getElem_range] at this;simp only [Bool.not_eq_true',Bool.and_eq_false_iff,decide_eq_false_iff_not] at this;rcases this with h | h
   ·exact h hs.1
   ·exact h hs.2.2
theorem rep_other {i:Nat} (h:(nodeAt t (os.getD i [])).kind≠48):repOf t os i=i:=by
 unfold repOf;rw [if_neg h]
theorem rep_le (i:Nat):repOf t os i≤i:=by
 by_cases h:(nodeAt t (os.getD i [])).kind=48
 ·exact (rep_file h).1
 ·rw [rep_other h];exact Nat.le_refl _
theorem rep_same {i j:Nat} (h:SameC t os i j):repOf t os i=repOf t os j:=by
 obtain ⟨a1,a2,a3⟩:=rep_file (t:=t) (os:=os) (i:=i) h.2.1;obtain ⟨b1,b2,b3⟩:=rep_file (t:=t) (os:=os) (i:=j) h.1;rcases Nat.lt_trichotomy (repOf t os i) (repOf t os j) with hlt | he | hlt
 ·exact absurd ⟨a2.1,h.1,a2.2.2.trans h.2.2.symm⟩ (b3 _ hlt)
 ·exact he
 ·exact absurd ⟨b2.1,h.2.1,b2.2.2.trans h.2.2⟩ (a3 _ hlt)
theorem rep_rep (i:Nat):repOf t os (repOf t os i)=repOf t os i:=by
 by_cases h:(nodeAt t (os.getD i [])).kind=48
 ·exact (rep_same (rep_file h).2.1).symm
 ·rw [rep_other h,rep_other h]
theorem rep_kind (i:Nat):(nodeAt t (os.getD (repOf t os i) [])).kind=(nodeAt t (os.getD i [])).kind:=by
 by_cases h:(nodeAt t (os.getD i [])).kind=48
 ·rw [(rep_file h).2.1.1,h]
 ·rw [rep_other h]
def memAt (t:List NodeV) (os:List (List UInt8)) (i:Nat):MemV:=
 if repOf t os i=i then (nodeAt t (os.getD i [])).mem else hardN (nodeAt t (os.getD i [])) (os.getD (repOf t os i) [])
end
section
variable {t:List NodeV} {os:List (List UInt8)}
theorem nodeAt_path {p:List UInt8} (h:p ∈ t.map (·.path)):(nodeAt t p).path=p∧nodeAt t p ∈ t:=by
 obtain ⟨x,hx,rfl⟩:=List.mem_map.1 h;unfold nodeAt
 cases hf:findN t x.path with
 | none =>
   unfold findN at hf;have:=List.find?_eq_none.1 hf x hx;simp at this
 | some y =>
   unfold findN at hf;have h2':=List.find?_some hf;have h2:(y.path == x.path)=true:=h2';exact ⟨by simpa using h2,List.mem_of_find?_eq_some hf⟩
def firstsN (t:List NodeV) (os:List (List UInt8)) (n:Nat):List (List UInt8 × List UInt8):=
 ((List.range n).filter fun i => decide ((nodeAt t (os.getD i [])).kind=48) && decide (repOf t os i=i)).map fun i => ((nodeAt t (os.getD i [])).leader,(nodeAt t (os.getD i [])).path)
theorem lkGo_is (hp:∀ p ∈ os,p ∈ t.map (·.path)):∀ n,n≤os.length → lkGo t (os.take n)=⟨firstsN t os n,(List.range n).map (memAt t os)⟩
 | 0,_ => rfl
 | n+1,h => by
   have ih:=lkGo_is hp n (by omega)
   have hn:n < os.length:=by omega
   have hg:os.getD n []=os[n]:=by rw [List.getD,List.getElem?_eq_getElem hn];rfl
   have hpath:(nodeAt t (os.getD n [])).path=os.getD n []:=(nodeAt_path (hp _ (by rw [hg];exact List.getElem_mem hn))).1
   rw [List.take_succ_eq_append_getElem hn,lkGo_snoc,ih,← hg];unfold lkStep
   dsimp only
   rw [List.range_succ,List.map_append];unfold firstsN;rw [List.range_succ,List.filter_append,List.map_append]
   by_cases hk:(nodeAt t (os.getD n [])).kind=48
   ·rw [if_pos hk]
    obtain ⟨r1,r2,r3⟩:=rep_file (t:=t) (os:=os) (i:=n) hk
    by_cases hr:repOf t os n=n
    ·have hnone:(((List.range n).filter fun i => decide ((nodeAt t (os.getD i [])).kind=48) && decide (repOf t os i=i)).map fun i => ((nodeAt t (os.getD i [])).leader,(nodeAt t (os.getD i [])).path)).find? (fun e => e.1 == (nodeAt t (os.getD n [])).leader)=none:=by
      rw [List.find?_eq_none];intro e he;obtain ⟨i,hi,rfl⟩:=List.mem_map.1 he;rw [List.mem_filter,List.mem_range] at hi;obtain ⟨hi1,hi2⟩:=hi;simp only [Bool.and_eq_true,decide_eq_true_eq] at hi2;intro hc;have hc':(nodeAt t (os.getD i [])).leader=(nodeAt t (os.getD n [])).leader:=by simpa using hc
      exact r3 i (by omega) ⟨hi2.1,hk,hc'⟩
     rw [hnone]
     dsimp only
     have hm:memAt t os n=(nodeAt t (os.getD n [])).mem:=by unfold memAt;rw [if_pos hr]
     have hfl:[n].filter (fun i => decide ((nodeAt t (os.getD i [])).kind=48) && decide (repOf t os i=i))=[n]:=by
      rw [List.filter_cons_of_pos (by rw [decide_eq_true hk,decide_eq_true hr];rfl),List.filter_nil]
     rw [hfl,List.map_cons,List.map_nil,List.map_cons,List.map_nil,hm]
    ·have hlt:repOf t os n < n:=by omega
     have hsome:∃ e,(((List.range n).filter fun i => decide ((nodeAt t (os.getD i [])).kind=48) && decide (repOf t os i=i)).map fun i => ((nodeAt t (os.getD i [])).leader,(nodeAt t (os.getD i [])).path)).find? (fun e => e.1 == (nodeAt t (os.getD n [])).leader)=some e∧e.2=os.getD (repOf t os n) []:=by
      cases hf:(((List.range n).filter fun i => decide ((nodeAt t (os.getD i [])).kind=48) && decide (repOf t os i=i)).map fun i => ((nodeAt t (os.getD i [])).leader,(nodeAt t (os.getD i [])).path)).find? (fun e => e.1 == (nodeAt t (os.getD n [])).leader) with
      | none =>
        exfalso
        have hmem:((nodeAt t (os.getD (repOf t os n) [])).leader,(nodeAt t (os.getD (repOf t os n) [])).path) ∈ (((List.range n).filter fun i => decide ((nodeAt t (os.getD i [])).kind=48) && decide (repOf t os i=i)).map fun i => ((nodeAt t (os.getD i [])).leader,(nodeAt t (os.getD i [])).path)):=
         List.mem_map.2 ⟨repOf t os n,List.mem_filter.2 ⟨List.mem_range.2 hlt,by rw [decide_eq_true r2.1,decide_eq_true (rep_rep n)];rfl⟩,rfl⟩
        have:=List.find?_eq_none.1 hf _ hmem;apply this;show ((nodeAt t (os.getD (repOf t os n) [])).leader == (nodeAt t (os.getD n [])).leader)=true;rw [r2.2.2];exact beq_self_eq_true _
      | some e =>
        have h1:=List.mem_of_find?_eq_some hf;have h2':=List.find?_some hf;have h2:(e.1 == (nodeAt t (os.getD n [])).leader)=true:=h2';obtain ⟨i,hi,rfl⟩:=List.mem_map.1 h1;rw [List.mem_filter,List.mem_range] at hi;obtain ⟨hi1,hi2⟩:=hi;simp only [Bool.and_eq_true,decide_eq_true_eq] at hi2;have hl:(nodeAt t (os.getD i [])).leader=(nodeAt t (os.getD n [])).leader:=by simpa using h2
        have hs:SameC t os n i:=⟨hi2.1,hk,hl⟩;refine ⟨_,rfl,?_⟩;show (nodeAt t (os.getD i [])).path=_;have hin:repOf t os n=i:=(rep_same hs).trans hi2.2;rw [hin];have hgi:os.getD i []=os[i]'(by omega):=by rw [List.getD,List.getElem?_eq_getElem (by omega)];rfl
        exact (nodeAt_path (hp _ (by rw [hgi];exact List.getElem_mem _))).1
     obtain ⟨e,he1,he2⟩:=hsome;rw [he1]
     dsimp only
     have hm:memAt t os n=hardN (nodeAt t (os.getD n [])) e.2:=by unfold memAt;rw [if_neg hr,he2]
     have hfl:[n].filter (fun i => decide ((nodeAt t (os.getD i [])).kind=48) && decide (repOf t os i=i))=[]:=by
      rw [List.filter_cons_of_neg (by rw [decide_eq_false hr];simp),List.filter_nil]
     rw [hfl,List.map_nil,List.append_nil,List.map_cons,List.map_nil,hm]
   ·rw [if_neg hk]
    have hm:memAt t os n=(nodeAt t (os.getD n [])).mem:=by unfold memAt;rw [if_pos (rep_other hk)]
    have hfl:[n].filter (fun i => decide ((nodeAt t (os.getD i [])).kind=48) && decide (repOf t os i=i))=[]:=by
     rw [List.filter_cons_of_neg (by rw [decide_eq_false hk];simp),List.filter_nil]
    rw [hfl,List.map_nil,List.append_nil,List.map_cons,List.map_nil,hm]
theorem linksD_is (hp:∀ p ∈ os,p ∈ t.map (·.path)):linksD t os=(List.range os.length).map (memAt t os):=by
 have:=lkGo_is hp os.length (Nat.le_refl _);rw [List.take_of_length_le (Nat.le_refl _)] at this;unfold linksD;rw [this]
end
end Go.Proofs.YtfhelebejclalaaDoor.Lnk
end
section
namespace Go.Proofs.YtfhelebejclalaaDoor.Tre
open Go.ChangeShapes Go.WideShapes Go.ChangeAt Go.RowKit Base Byt Txt Bk Mem Go.Lib
set_option linter.unusedVariables false
set_option maxRecDepth 100000
theorem neqS (a b:List UInt8):((str a).toList == (str b).toList)=decide (a=b):=by
 rw [str_toList,str_toList]
 by_cases h:a=b<;>simp [h]
end Go.Proofs.YtfhelebejclalaaDoor.Tre
end
section
namespace Go.Proofs.YtfhelebejclalaaDoor.Lnk
open Go.ChangeShapes Go.WideShapes Go.ChangeAt Go.RowKit Base Byt Txt Bk Rec Block Mem Go.Proofs.YtfhelebejclalaaDoor.Mp Tre Go.Lib
set_option linter.unusedVariables false
set_option maxRecDepth 100000
abbrev LkF:=List (List UInt8 × List UInt8)
theorem own_two {w:World} {B n m:Nat} {v u:Value} {xs ys:List Value} (h1:w.ownsRow B 50 8 v n xs) (h2:w.ownsRow B 9 1 u m ys):∀ k,u.ownBlock=some k → v.ownBlock≠some k:=fun k hu hv => by
 rcases h1.2 with ⟨rfl,_⟩ | ⟨g,cap,cur,rfl,_,hg,_⟩
 ·cases hv
 ·rcases h2.2 with ⟨rfl,_⟩ | ⟨g',cap',cur',rfl,_,hg',_⟩
  ·cases hu
  ·have e1:g=k:=by simpa [Value.ownBlock] using hv
   have e2:g'=k:=by simpa [Value.ownBlock] using hu
   subst e1;subst e2;rw [hg] at hg';simp only [Option.some.injEq,Obj.cells.injEq] at hg';exact absurd hg'.2.1 (by decide)
structure MbI (w wr:World) (F:LkF) (ms:List MemV) (vo v6 v7:Value) (ys:List MP):Prop where
 bel:Below w.heap.size w wr
 out:wr.ownsRow w.heap.size 50 8 vo ys.length (flatM ys)
 same:ys.map MP.m=ms
 bod:∀ y ∈ ys,BodyAt w y
 led:wr.ownsRow w.heap.size 9 1 v6 F.length (flatS (F.map (·.1)))
 fst:wr.ownsRow w.heap.size 9 1 v7 F.length (flatS (F.map (·.2)))
 sep:∀ k,v6.ownBlock=some k → v7.ownBlock≠some k
section
variable {w wr w':World} {F:LkF} {ms:List MemV} {vo v6 v7:Value} {ys:List MP}
theorem MbI.below (h:MbI w wr F ms vo v6 v7 ys) (hb:Below wr.heap.size wr w'):MbI w w' F ms vo v6 v7 ys where
 bel:=h.bel.trans (hb.mono h.bel.size)
 out:=row_below h.out hb
 same:=h.same
 bod:=h.bod
 led:=row_below h.led hb
 fst:=row_below h.fst hb
 sep:=h.sep
theorem MbI.add (h:MbI w wr F ms vo v6 v7 ys) {y:MP} {m:MemV} (hy:y.m=m) (hb:BodyAt w y) {v':Value} (hrow:w'.ownsRow w.heap.size 50 8 v' (ys++[y]).length (flatM (ys++[y]))) (hg:wr.grownBy w' vo.ownBlock):MbI w w' F (ms++[m]) v' v6 v7 (ys++[y]):=by
 have hK:Kept (fun b => vo.ownBlock=some b) wr w':=(Kept.refl _ wr).grown hg (fun k hk => .inr hk)
 exact
 { bel:=h.bel.trans (hK.below h.bel.size (fun k hk => (World.ownsRow.lt h.out _ hk).1))
   out:=hrow
   same:=by rw [List.map_append,h.same,← hy];rfl
   bod:=fun x hx => by
    rcases List.mem_append.1 hx with hx | hx
    ·exact h.bod x hx
    ·rw [List.mem_singleton.1 hx];exact hb
   led:=ownsRow_kept h.led hK (fun k hk e => own_two h.out h.led k hk e)
   fst:=ownsRow_kept h.fst hK (fun k hk e => own_two h.out h.fst k hk e)
   sep:=h.sep }
theorem MbI.off (h:MbI w wr F ms vo v6 v7 ys) {b:Nat} {t:TypeId} {cs:Array Value} (ht:t≠9) (hb:Blk wr b t cs):¬ twoV v6 v7 b:=fun e => by
 have key:∀ {v:Value} {n:Nat} {xs:List Value},wr.ownsRow w.heap.size 9 1 v n xs → v.ownBlock≠some b:=fun {v n xs} ho e => by
  rcases ho.2 with ⟨rfl,_⟩ | ⟨g,cap,cur,rfl,_,hg,_⟩
  ·cases e
  ·have hgb:g=b:=by simpa [Value.ownBlock] using e
   subst hgb;unfold Blk at hb;rw [hg] at hb;simp only [Option.some.injEq,Obj.cells.injEq] at hb;exact ht hb.2.1.symm
 rcases e with e | e
 ·exact key h.led e
 ·exact key h.fst e
end
end Go.Proofs.YtfhelebejclalaaDoor.Lnk
end
