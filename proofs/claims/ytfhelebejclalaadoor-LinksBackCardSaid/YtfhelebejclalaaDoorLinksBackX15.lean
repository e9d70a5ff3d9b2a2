/- Texts of this seat, merged: what the proof reaches. -/
import Derived.Test.YtfhelebejclalaaDoorLinksBackX12
import Derived.Test.YtfhelebejclalaaDoorLinksBackX5
import Derived.Lib.ParseIntB
import Derived.Lib.AtoiTie
import Derived.Lib.ItoaNum
import Derived.Lib.IndexLaws
import Derived.Lib.AtoiAll
import Derived.Lib.SlTrimSet
import Derived.Test.YtfhelebejclalaaDoorLinksBackX7
import Derived.Test.YtfhelebejclalaaDoorLinksBackX1
namespace Go.Proofs.YtfhelebejclalaaDoor
namespace Attr
end Attr
namespace Fp
end Fp
namespace Hp
end Hp
namespace Mem
end Mem
namespace Path
end Path
namespace Rec
end Rec
end Go.Proofs.YtfhelebejclalaaDoor
section
namespace Go.Proofs.YtfhelebejclalaaDoor.Mem
open Go.Lib Fp Hp Path Rec Attr
set_option linter.unusedVariables false
structure MemV where
 path:List UInt8
 target:List UInt8
 kind:UInt8
 mode:Int
 uid:Int
 gid:Int
 time:Int
 body:List UInt8
deriving instance DecidableEq for MemV
def metaOk (mode uid gid time:Int):Bool:=decide (0≤mode∧mode≤4095∧0≤uid∧uid < 2147483648∧0≤gid∧gid < 2147483648∧0≤time∧time≤1099511627776)
def cleanOk (l:List UInt8):Bool:=decide (cleanD 9 6 l=(l,0))
def goodD (m:MemV):Bool:=
 cleanOk m.path && metaOk m.mode m.uid m.gid m.time && decide (m.body.length≤1048576) && (m.kind == 48 || m.body == []) &&
  (if m.kind=48 ∨ m.kind=53 then m.target == [] else if m.kind=49 then cleanOk m.target else if m.kind=50 then decide (targetD 9 6 m.target=0) else false)
end Go.Proofs.YtfhelebejclalaaDoor.Mem
end
section
namespace Go.Proofs.YtfhelebejclalaaDoor.Mem
open Go.Lib Fp Hp Path Rec Attr
set_option linter.unusedVariables false
structure GoodM (m:MemV):Prop where
 path:cleanD 9 6 m.path=(m.path,0)
 pathT:textD m.path=true
 pathN:m.path≠[]
 pathL:m.path.length≤200
 mode:0≤m.mode∧m.mode≤4095
 uid:0≤m.uid∧m.uid < 2147483648
 gid:0≤m.gid∧m.gid < 2147483648
 time:0≤m.time∧m.time≤1099511627776
 body:m.body.length≤1048576
 file:m.kind≠48 → m.body=[]
 kind:m.kind=48 ∨ m.kind=49 ∨ m.kind=50 ∨ m.kind=53
 none:m.kind=48 ∨ m.kind=53 → m.target=[]
 hard:m.kind=49 → cleanD 9 6 m.target=(m.target,0)
 sym:m.kind=50 → targetD 9 6 m.target=0
 targT:textD m.target=true
 targL:m.target.length≤200
theorem clean_facts {l:List UInt8} (h:cleanD 9 6 l=(l,0)):textD l=true∧l≠[]∧l.length≤200:=by
 have h1:=(clean_ok 9 6 (by omega) (by omega) l l).1 h
 have h2:=clean_self 9 6 (by omega) (by omega) l l h
 exact ⟨h1.1,h2.2.1,h2.2.2.2⟩
theorem target_facts {l:List UInt8} (h:targetD 9 6 l=0):textD l=true∧l≠[]∧l.length≤200:=by
 unfold targetD at h
 split at h
 ·omega
 ·rename_i h1
  split at h
  ·omega
  ·rename_i h2
   simp only [not_or] at h2;exact ⟨by simpa using h1,h2.1,by omega⟩
theorem good_facts {m:MemV} (h:goodD m=true):GoodM m:=by
 simp only [goodD,Bool.and_eq_true,cleanOk,metaOk,decide_eq_true_eq,Bool.or_eq_true,beq_iff_eq] at h;obtain ⟨⟨⟨⟨h1,h2⟩,h3⟩,h4⟩,h5⟩:=h;obtain ⟨p1,p2,p3⟩:=clean_facts h1
 have hk:(m.kind=48 ∨ m.kind=49 ∨ m.kind=50 ∨ m.kind=53)∧((m.kind=48 ∨ m.kind=53) → m.target=[])∧(m.kind=49 → cleanD 9 6 m.target=(m.target,0))∧(m.kind=50 → targetD 9 6 m.target=0):=by
  split at h5
  ·rename_i hk
   refine ⟨by rcases hk with e | e<;>simp [e],fun _ => by simpa using h5,fun e => ?_,fun e => ?_⟩<;>(rw [e] at hk;exact absurd hk (by decide))
  ·rename_i hk
   split at h5
   ·rename_i hk2
    refine ⟨by simp [hk2],fun e => absurd e hk,fun _ => by simpa using h5,fun e => ?_⟩
    rw [hk2] at e;exact absurd e (by decide)
   ·rename_i hk2
    split at h5
    ·rename_i hk3
     exact ⟨by simp [hk3],fun e => absurd e hk,fun e => absurd e hk2,fun _ => by simpa using h5⟩
    ·cases h5
 obtain ⟨k1,k2,k3,k4⟩:=hk
 have ht:textD m.target=true∧m.target.length≤200:=by
  rcases k1 with e | e | e | e
  ·rw [k2 (.inl e)];exact ⟨textD_nil,by simp⟩
  ·have:=clean_facts (k3 e);exact ⟨this.1,this.2.2⟩
  ·have:=target_facts (k4 e);exact ⟨this.1,this.2.2⟩
  ·rw [k2 (.inr e)];exact ⟨textD_nil,by simp⟩
 exact ⟨h1,p1,p2,p3,by omega,by omega,by omega,by omega,h3,fun hn => h4.resolve_left hn,k1,k2,k3,k4,ht.1,ht.2⟩
end Go.Proofs.YtfhelebejclalaaDoor.Mem
end
section
namespace Go.Proofs.YtfhelebejclalaaDoor.Mem
open Go.Lib Fp Hp Path Rec Attr
set_option linter.unusedVariables false
def noM:MemV:=⟨[],[],0,0,0,0,0,[]⟩
def goalD (kind:UInt8) (link:List UInt8):List UInt8 × Int:=if kind=49 then cleanD 9 6 link else if kind=50 then (link,targetD 9 6 link) else ([],0)
def sizeD (kind:UInt8) (n:Int):Int:=if kind≠48∧n≠0 then 4 else if 1048576 < n then 10 else 0
def fromD (h:HeadV):MemV × Int:=
 if (cleanD 9 6 h.name).2≠0 then (noM,(cleanD 9 6 h.name).2)
 else if metaOk h.mode h.uid h.gid h.time=false then (noM,4)
 else if (goalD h.kind h.link).2≠0 then (noM,(goalD h.kind h.link).2)
 else if sizeD h.kind h.size≠0 then (noM,sizeD h.kind h.size)
 else (⟨(cleanD 9 6 h.name).1,(goalD h.kind h.link).1,h.kind,h.mode,h.uid,h.gid,h.time,[]⟩,0)
def knownD (k:UInt8):Bool:=k == 48 || k == 49 || k == 50 || k == 53
def headOfM (m:MemV):HeadV:=⟨m.path,m.target,m.kind,m.mode,m.uid,m.gid,m.time,(m.body.length:Int),false⟩
theorem goodD_is (m:MemV):goodD m=(knownD m.kind && decide ((fromD (headOfM m)).2=0) && decide ((fromD (headOfM m)).1.path=m.path) && decide ((fromD (headOfM m)).1.target=m.target)):=by
 rw [Bool.eq_iff_iff];unfold goodD knownD fromD headOfM cleanOk goalD sizeD;simp only [Bool.and_eq_true,Bool.or_eq_true,decide_eq_true_eq,beq_iff_eq];obtain ⟨⟨cp,ce⟩,hc⟩:∃ x,cleanD 9 6 m.path=x:=⟨_,rfl⟩;obtain ⟨⟨dp,de⟩,hd⟩:∃ x,cleanD 9 6 m.target=x:=⟨_,rfl⟩;rw [hc,hd];have hb:((m.body.length:Int)=0) ↔ m.body=[]:=by rw [← List.length_eq_zero_iff];omega
 have hb2:(1048576 < (m.body.length:Int)) ↔ 1048576 < m.body.length:=by omega
 have hb3:m.body=[] → ¬ 1048576 < m.body.length:=fun h => by rw [h];simp
 simp only [Prod.mk.injEq,ne_eq,hb,hb2]
 by_cases h1:ce=0
 ·by_cases h2:metaOk m.mode m.uid m.gid m.time=false
  ·simp [h1,h2,noM]
  ·have h2':metaOk m.mode m.uid m.gid m.time=true:=by simpa using h2
   by_cases k0:m.kind=48
   ·by_cases h6:1048576 < m.body.length
    ·simp [h1,h2',k0,h6]
     intro _ _;omega
    ·have h7:m.body.length≤1048576:=by omega
     simp [h1,h2',k0,h6,h7,@eq_comm _ [] m.target]
   ·by_cases k1:m.kind=49
    ·by_cases h4:de=0
     ·by_cases h5:m.body=[]
      ·simp [h1,h2',k1,h4,h5]
      ·simp [h1,h2',k1,h4,h5]
     ·simp [h1,h2',k1,h4]
    ·by_cases k2:m.kind=50
     ·by_cases h4:targetD 9 6 m.target=0
      ·by_cases h5:m.body=[]
       ·simp [h1,h2',k2,h4,h5]
       ·simp [h1,h2',k2,h4,h5]
      ·simp [h1,h2',k2,h4]
     ·by_cases k3:m.kind=53
      ·by_cases h5:m.body=[]
       ·simp [h1,h2',k3,h5,@eq_comm _ [] m.target]
       ·simp [h1,h2',k3,h5]
      ·simp [k0,k1,k2,k3]
 ·simp [h1]
end Go.Proofs.YtfhelebejclalaaDoor.Mem
end
section
namespace Go.Proofs.YtfhelebejclalaaDoor.Tre
open Mem
set_option linter.unusedVariables false
def ltB (a b:List UInt8):Bool:=Op.bytesLess a b
theorem ltB_nil (b:List UInt8):ltB b []=false:=by cases b<;>rfl
theorem ltB_cons (a b:UInt8) (x y:List UInt8):ltB (a :: x) (b :: y)=(decide (a < b) || (a == b && ltB x y)):=rfl
theorem ltB_irrefl (a:List UInt8):ltB a a=false:=by
 induction a with
 | nil => rfl
 | cons b l ih => rw [ltB_cons,ih];simp
theorem ltB_trans (a:List UInt8):∀ b c,ltB a b=true → ltB b c=true → ltB a c=true:=by
 induction a with
 | nil => intro b c h1 h2
          cases c with
          | nil => rw [ltB_nil] at h2;cases h2
          | cons c z => rfl
 | cons a x ih =>
   intro b c h1 h2
   cases b with
   | nil => rw [ltB_nil] at h1;cases h1
   | cons b y =>
     cases c with
     | nil => rw [ltB_nil] at h2;cases h2
     | cons c z =>
       rw [ltB_cons] at h1 h2 ⊢;simp only [Bool.or_eq_true,decide_eq_true_eq,Bool.and_eq_true,beq_iff_eq] at h1 h2 ⊢;rcases h1 with h1 | ⟨rfl,h1⟩
       ·rcases h2 with h2 | ⟨rfl,h2⟩
        ·exact .inl (UInt8.lt_trans h1 h2)
        ·exact .inl h1
       ·rcases h2 with h2 | ⟨rfl,h2⟩
        ·exact .inl h2
        ·exact .inr ⟨rfl,ih y z h1 h2⟩
theorem ltB_tri (a:List UInt8):∀ b,ltB a b=false → ltB b a=false → a=b:=by
 induction a with
 | nil =>
   intro b h1 h2
   cases b with
   | nil => rfl
   | cons b y => exact absurd h1 (by simp [ltB,Op.bytesLess])
 | cons a x ih =>
   intro b h1 h2
   cases b with
   | nil => exact absurd h2 (by simp [ltB,Op.bytesLess])
   | cons b y =>
     rw [ltB_cons] at h1 h2;simp only [Bool.or_eq_false_iff,decide_eq_false_iff_not] at h1 h2
     have hab:a=b:=by
      apply UInt8.le_antisymm
      ·exact UInt8.not_lt.1 h2.1
      ·exact UInt8.not_lt.1 h1.1
     subst hab;have e1:ltB x y=false:=by simpa using h1.2
     have e2:ltB y x=false:=by simpa using h2.2
     rw [ih y e1 e2]
theorem ltB_asym {a b:List UInt8} (h:ltB a b=true):ltB b a=false:=by
 cases hb:ltB b a with
 | false => rfl
 | true => have:=ltB_trans a b a h hb;rw [ltB_irrefl] at this;cases this
theorem ltB_ne {a b:List UInt8} (h:ltB a b=true):a≠b:=fun e => by subst e;rw [ltB_irrefl] at h;cases h
theorem ltB_of_not {a b:List UInt8} (h:ltB a b=false) (hne:a≠b):ltB b a=true:=by
 cases hb:ltB b a with
 | true => rfl
 | false => exact absurd (ltB_tri a b h hb) hne
theorem ltB_le_trans {a b c:List UInt8} (h:ltB b a=false) (h2:ltB b c=true):ltB a c=true:=by
 by_cases e:a=b
 ·rw [e];exact h2
 ·exact ltB_trans a b c (ltB_of_not h (fun x => e x.symm)) h2
theorem ltB_trans_le {a b c:List UInt8} (h:ltB a b=true) (h2:ltB c b=false):ltB a c=true:=by
 by_cases e:b=c
 ·rw [← e];exact h
 ·exact ltB_trans a b c h (ltB_of_not h2 (fun x => e x.symm))
structure NodeV where
 path:List UInt8
 target:List UInt8
 leader:List UInt8
 kind:UInt8
 mode:Int
 uid:Int
 gid:Int
 time:Int
 body:List UInt8
deriving instance DecidableEq for NodeV
def zeroN:NodeV:=⟨[],[],[],0,0,0,0,0,[]⟩
def NodeV.mem (x:NodeV):MemV:=⟨x.path,x.target,x.kind,x.mode,x.uid,x.gid,x.time,x.body⟩
def eqN (a b:NodeV):Bool:=decide (a.mem=b.mem)
theorem node_eq {a b:NodeV} (h:a.mem=b.mem) (hl:a.leader=b.leader):a=b:=by
 cases a;cases b
 simp only [NodeV.mem,MemV.mk.injEq] at h
 simp_all
def nodeM (p:List UInt8) (m:MemV) (l:List UInt8):NodeV:=⟨p,m.target,l,m.kind,m.mode,m.uid,m.gid,m.time,m.body⟩
def zeroMv:MemV:=⟨[],[],0,0,0,0,0,[]⟩
abbrev St:=List (List UInt8 × Nat)
def look (S:St) (p:List UInt8):Option Nat:=(S.find? fun e => e.1 == p).map (·.2)
def putS (S:St) (p:List UInt8) (n:Nat):St:=S.filter (fun e => !(e.1 == p))++[(p,n)]
def layD (ms:List MemV) (S:St) (i:Nat):Option St:=
 let m:=ms.getD i zeroMv
 if m.kind=49 then
  match look S m.target with
  | none => none
  | some n => if (ms.getD n zeroMv).kind=48 then some (putS S m.path n) else none
 else some (putS S m.path i)
def laysD (ms:List MemV):Nat → Except Nat St
 | 0 => .ok []
 | k+1 => match laysD ms k with
   | .error i => .error i
   | .ok S => match layD ms S k with
     | none => .error k
     | some S' => .ok S'
def leadD (T:St) (n:Nat):List UInt8:=((T.find? fun e => e.2 == n).map (·.1)).getD []
def nodeD (ms:List MemV) (T:St) (e:List UInt8 × Nat):NodeV:=
 nodeM e.1 (ms.getD e.2 zeroMv) (if (ms.getD e.2 zeroMv).kind=48 then leadD T e.2 else [])
def leS (a b:List UInt8 × Nat):Bool:=!ltB b.1 a.1
def sortS (S:St):St:=S.mergeSort leS
def treeD (ms:List MemV) (S:St):List NodeV:=(sortS S).map (nodeD ms (sortS S))
def foldD (ms:List MemV):List NodeV × Int × Nat:=
 match ms.findIdx? (fun m => !goodD m) with
 | some i => ([],1,i)
 | none => match laysD ms ms.length with
   | .error i => ([],7,i)
   | .ok S => (treeD ms S,0,0)
def findN (t:List NodeV) (p:List UInt8):Option NodeV:=t.find? fun x => x.path == p
def ledO (o:Option NodeV) (x:NodeV):Bool:=
 match o with
 | none => false
 | some y => decide (y.kind=48) && (decide (y.leader=y.path) && (decide (y.mode=x.mode∧y.uid=x.uid∧y.gid=x.gid∧y.time=x.time) && decide (y.body=x.body)))
def ledD (t:List NodeV) (x:NodeV):Bool:=
 if x.kind=48 then ledO (findN t x.leader) x else decide (x.leader=[])
def isNodeD (x:NodeV):Bool:=decide (x.kind≠49) && goodD x.mem
def goodAt (t:List NodeV) (i:Nat):Bool:=
 let x:=t.getD i zeroN
 (isNodeD x && (decide (i=0) || ltB (t.getD (i - 1) zeroN).path x.path)) && ledD (t.take (i+1)) x
def goodT (t:List NodeV):Bool:=decide (t.length≤4096) && (List.range t.length).all (goodAt t)
def Rising (t:List NodeV):Prop:=t.Pairwise fun a b => ltB a.path b.path=true
end Go.Proofs.YtfhelebejclalaaDoor.Tre
end
