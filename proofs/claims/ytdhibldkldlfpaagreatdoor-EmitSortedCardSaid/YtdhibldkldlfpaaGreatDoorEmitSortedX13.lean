/- Merged. -/
import Derived.Test.YtdhibldkldlfpaaGreatDoorEmitSortedX2
import Derived.Test.YtdhibldkldlfpaaGreatDoorEmitSortedX11
import Derived.Laws.CopyOwn
namespace Go.Proofs.YtdhibldkldlfpaaGreatDoor
set_option linter.unusedVariables false
namespace Hp
open Go.Lib Fp
variable {l p s bs cs name:List UInt8} {i k n x:Nat} {own:Nat→List UInt8} {h:ak}
def fF:Nat→Nat
 |0=>0|1=>100|2=>108|3=>116|4=>124|5=>136|6=>148|7=>156|8=>157|9=>257|10=>345|_=>512
def aj:Nat→Nat
 |0=>100|1=>8|2=>8|3=>8|4=>12|5=>12|6=>8|7=>1|8=>100|9=>8|10=>155|_=>0
def xO (x:Nat):Nat:=
 if x<100 then 0 else if x<108 then 1 else if x<116 then 2 else if x<124 then 3 else if x<136 then 4 else if x<148 then 5 else if x<156 then 6 else if x<157 then 7 else if x<257 then 8 else if x<265 then 9 else if x<345 then 11 else if x<500 then 10 else 11
theorem kI (hi:i<11):i=0∨i=1∨i=2∨i=3∨i=4∨i=5∨i=6∨i=7∨i=8∨i=9∨i=10:=by omega
theorem QD (x:Nat):∃v lo hi,xO x=v∧lo≤x∧x<hi∧((v=11∧lo=500)∨(v=11∧lo=265∧hi=345)∨(v<11∧fF v=lo∧fF v+aj v=hi)):=by
 by_cases A:x<100
 ·refine⟨0,0,100,?_,by omega,A,?_⟩
  ·unfold xO
   rw[if_pos A]
  ·exact Or.inr (Or.inr ⟨by decide,rfl,rfl⟩)
 by_cases h1:x<108
 ·refine⟨1,100,108,?_,by omega,h1,?_⟩
  ·unfold xO
   rw[if_neg A,if_pos h1]
  ·exact Or.inr (Or.inr ⟨by decide,rfl,rfl⟩)
 by_cases B:x<116
 ·refine⟨2,108,116,?_,by omega,B,?_⟩
  ·unfold xO
   rw[if_neg A,if_neg h1,if_pos B]
  ·exact Or.inr (Or.inr ⟨by decide,rfl,rfl⟩)
 by_cases D:x<124
 ·refine⟨3,116,124,?_,by omega,D,?_⟩
  ·unfold xO
   rw[if_neg A,if_neg h1,if_neg B,if_pos D]
  ·exact Or.inr (Or.inr ⟨by decide,rfl,rfl⟩)
 by_cases E:x<136
 ·refine⟨4,124,136,?_,by omega,E,?_⟩
  ·unfold xO
   rw[if_neg A,if_neg h1,if_neg B,if_neg D,if_pos E]
  ·exact Or.inr (Or.inr ⟨by decide,rfl,rfl⟩)
 by_cases G:x<148
 ·refine⟨5,136,148,?_,by omega,G,?_⟩
  ·unfold xO
   rw[if_neg A,if_neg h1,if_neg B,if_neg D,if_neg E,if_pos G]
  ·exact Or.inr (Or.inr ⟨by decide,rfl,rfl⟩)
 by_cases H:x<156
 ·refine⟨6,148,156,?_,by omega,H,?_⟩
  ·unfold xO
   rw[if_neg A,if_neg h1,if_neg B,if_neg D,if_neg E,if_neg G,if_pos H]
  ·exact Or.inr (Or.inr ⟨by decide,rfl,rfl⟩)
 by_cases I:x<157
 ·refine⟨7,156,157,?_,by omega,I,?_⟩
  ·unfold xO
   rw[if_neg A,if_neg h1,if_neg B,if_neg D,if_neg E,if_neg G,if_neg H,if_pos I]
  ·exact Or.inr (Or.inr ⟨by decide,rfl,rfl⟩)
 by_cases J:x<257
 ·refine⟨8,157,257,?_,by omega,J,?_⟩
  ·unfold xO
   rw[if_neg A,if_neg h1,if_neg B,if_neg D,if_neg E,if_neg G,if_neg H,if_neg I,if_pos J]
  ·exact Or.inr (Or.inr ⟨by decide,rfl,rfl⟩)
 by_cases L:x<265
 ·refine⟨9,257,265,?_,by omega,L,?_⟩
  ·unfold xO
   rw[if_neg A,if_neg h1,if_neg B,if_neg D,if_neg E,if_neg G,if_neg H,if_neg I,if_neg J,if_pos L]
  ·exact Or.inr (Or.inr ⟨by decide,rfl,rfl⟩)
 by_cases M:x<345
 ·refine⟨11,265,345,?_,by omega,M,?_⟩
  ·unfold xO
   rw[if_neg A,if_neg h1,if_neg B,if_neg D,if_neg E,if_neg G,if_neg H,if_neg I,if_neg J,if_neg L,if_pos M]
  ·exact Or.inr (Or.inl ⟨rfl,rfl,rfl⟩)
 by_cases N:x<500
 ·refine⟨10,345,500,?_,by omega,N,?_⟩
  ·unfold xO
   rw[if_neg A,if_neg h1,if_neg B,if_neg D,if_neg E,if_neg G,if_neg H,if_neg I,if_neg J,if_neg L,if_neg M,if_pos N]
  ·exact Or.inr (Or.inr ⟨by decide,rfl,rfl⟩)
 refine⟨11,500,x+1,?_,by omega,by omega,Or.inl ⟨rfl,rfl⟩⟩;unfold xO;rw[if_neg A,if_neg h1,if_neg B,if_neg D,if_neg E,if_neg G,if_neg H,if_neg I,if_neg J,if_neg L,if_neg M,if_neg N]
theorem J0 {j:Nat} (hi:i<11) (hj:j<11) (cX:i≠j):fF i+aj i≤fF j∨fF j+aj j≤fF i:=by
 have h:∀i,i<11→∀j,j<11→i≠j→fF i+aj i≤fF j∨fF j+aj j≤fF i:=by decide
 exact h i hi j hj cX
theorem Nu (hi:i<11):fF i+aj i≤265∨345≤fF i∧fF i+aj i≤500:=by
 have h:∀i,i<11→(fF i+aj i≤265∨345≤fF i∧fF i+aj i≤500):=by decide
 exact h i hi
theorem rL (hi:i<11):xO x=i↔fF i≤x∧x<fF i+aj i:=by
 obtain⟨v,lo,E,e,h1,D,A⟩:=QD x;have hf:=Nu hi;rw[e];rcases A with⟨rfl,rfl⟩|⟨rfl,rfl,rfl⟩|⟨A,rfl,rfl⟩
 ·omega
 ·omega
 ·constructor
  ·rintro rfl;exact⟨h1,D⟩
  ·intro h
   rcases Nat.decEq v i with B|rfl
   ·have:=J0 A hi B
    omega
   ·rfl
theorem lM (hi:i<11):fF i+aj i≤512:=by
 rcases kI hi with rfl|rfl|rfl|rfl|rfl|rfl|rfl|rfl|rfl|rfl|rfl<;>simp[fF,aj]
theorem kC (hi:i<11):1≤aj i∧aj i≤155:=by
 rcases kI hi with rfl|rfl|rfl|rfl|rfl|rfl|rfl|rfl|rfl|rfl|rfl<;>simp[aj]
theorem qh (hi:¬i<11):aj i=0:=by
 match i,hi with
 |0,hi|1,hi|2,hi|3,hi|4,hi|5,hi|6,hi|7,hi|8,hi|9,hi|10,hi=>exact absurd (by decide) hi
 |i+11,_=>rfl
theorem sI {m:List UInt8} (h:l.length=m.length) (hx:∀x,x<l.length→l.getD x 0=m.getD x 0):l=m:=by
 apply List.ext_getElem h;intro x h1 A;have:=hx x h1;rw[List.getD,List.getD,Qd h1,Qd A]at this
 simpa using this
def Fits (own:Nat→List UInt8):Prop:=∀i,(own i).length=aj i
def cu (own:Nat→List UInt8):List UInt8:=(List.range 512).map fun x=>(own (xO x)).getD (x - fF (xO x)) 0
theorem bV (own:Nat→List UInt8):(cu own).length=512:=by simp[cu]
theorem gn (own:Nat→List UInt8) (h:x<512):(cu own).getD x 0=(own (xO x)).getD (x - fF (xO x)) 0:=by
 simp[cu,List.getD,h]
def aw (bs:List UInt8) (i:Nat):List UInt8:=(bs.drop (fF i)).take (aj i)
theorem jW (hl:bs.length=512) (hi:i<11):(aw bs i).length=aj i:=by
 have:=lM hi;simp only[aw,Qg,Qe];omega
theorem sE (bs:List UInt8) (i j:Nat) (hj:j<aj i):(aw bs i).getD j 0=bs.getD (fF i+j) 0:=by
 simp[aw,List.getD,hj]
theorem kK (hf:Fits own) (hi:i<11):aw (cu own) i=own i:=by
 have hl:=jW (bV own) hi;refine sI (by rw[hl,hf i]) fun x A=>?_
 rw[hl]at A;have h1:=lM hi;rw[sE _ _ _ A,gn own (by omega),(rL hi).2 ⟨by omega,by omega⟩]
 congr 1
 omega
def Bz (own:Nat→List UInt8) (i:Nat) (l:List UInt8):Nat→List UInt8:=fun k=>if k=i then l else own k
theorem mD (own:Nat→List UInt8) (i:Nat) (l:List UInt8):Bz own i l i=l:=if_pos rfl
theorem iV (own:Nat→List UInt8) (l:List UInt8) (h:k≠i):Bz own i l k=own k:=if_neg h
theorem Fits.Bz (h:Fits own) (hl:l.length=aj i):Fits (Bz own i l):=fun k=>by
 by_cases hk:k=i
 ·subst hk;rw[mD];exact hl
 ·rw[iV _ _ hk];exact h k
def fr (old cs:List UInt8):List UInt8:=cs++old.drop cs.length
theorem tR {old:List UInt8} (h:cs.length≤old.length):(fr old cs).length=old.length:=by
 simp only[fr,Qf,Qe];omega
theorem ug (L cs:List UInt8) (off x:Nat) (h:off+cs.length≤L.length):(splice L off cs).getD x 0=if off≤x∧x<off+cs.length then cs.getD (x - off) 0 else L.getD x 0:=by
 unfold splice;have hm:min off L.length=off:=by omega
 simp only[List.getD,List.getElem?_append,Qg,hm]
 by_cases h1:x<off
 ·rw[if_pos h1,if_neg (by omega),List.getElem?_take,if_pos h1]
 ·rw[if_neg h1]
  by_cases A:x - off<cs.length
  ·rw[if_pos A,if_pos (by omega)]
  ·rw[if_neg A,if_neg (by omega),List.getElem?_drop]
   congr 2
   omega
theorem my (L cs:List UInt8):splice L 0 cs=fr L cs:=by simp[splice,fr]
theorem AL (old cs:List UInt8) (x:Nat) (h:cs.length≤old.length):(fr old cs).getD x 0=if x<cs.length then cs.getD x 0 else old.getD x 0:=by
 rw[←my,ug _ _ _ _ (by omega)];simp
theorem vk (hf:Fits own) (hi:i<11) (hl:cs.length≤aj i):splice (cu own) (fF i) cs=cu (Bz own i (fr (own i) cs)):=by
 have h1:=lM hi;have E:(splice (cu own) (fF i) cs).length=512:=by rw[length_splice _ _ _ (by rw[bV];omega),bV]
 refine sI (by rw[E,bV]) fun x A=>?_
 rw[E]at A;rw[ug _ _ _ _ (by rw[bV];omega),gn _ A,gn _ A]
 by_cases B:fF i≤x∧x<fF i+aj i
 ·rw[(rL hi).2 B,mD,AL _ _ _ (by rw[hf i];exact hl)]
  by_cases D:x - fF i<cs.length
  ·rw[if_pos (by omega),if_pos D]
  ·rw[if_neg (by omega),if_neg D]
 ·rw[if_neg (by omega),iV _ _ (fun e=>B ((rL hi).1 e))]
def fB:Nat→List UInt8:=fun i=>List.replicate (aj i) 0
theorem k5:Fits fB:=fun i=>List.length_replicate
theorem zr:cu fB=List.replicate 512 0:=by
 refine sI (by rw[bV,List.length_replicate]) fun x A=>?_
 rw[bV]at A;rw[gn _ A];simp only[fB,List.getD,List.getElem?_replicate,if_pos A];split<;>rfl
def di (bs:List UInt8):Nat→List UInt8:=fun i=>if i<11 then aw bs i else[]
theorem DK (hl:bs.length=512):Fits (di bs):=fun i=>by
 unfold di;split
 ·exact jW hl ‹_›
 ·rw[qh ‹_›];rfl
theorem zI {a b:Nat→List UInt8} (ha:Fits a) (hb:Fits b) (h:∀i,i<11→a i=b i):a=b:=by
 funext i
 by_cases hi:i<11
 ·exact h i hi
 ·have h1:=ha i
  have A:=hb i;rw[qh hi]at h1 A;rw[List.eq_nil_of_length_eq_zero h1,List.eq_nil_of_length_eq_zero A]
def bq (bs:List UInt8):Nat→Nat
 |0=>0
 |k+1=>bq bs k+(bs.getD k 0).toNat
def dL (bs:List UInt8):Nat→Nat
 |0=>0
 |k+1=>dL bs k+(if 148≤k∧k<156 then 32 else(bs.getD k 0).toNat)
theorem jq (bs:List UInt8):∀k,bq bs k≤255*k
 |0=>Qk _
 |k+1=>by have:=jq bs k;have:=(bs.getD k 0).toNat_lt;rw[bq];omega
theorem pn (bs:List UInt8):∀k,dL bs k≤255*k
 |0=>Qk _
 |k+1=>by have:=pn bs k;have:=(bs.getD k 0).toNat_lt;rw[dL];split<;>omega
theorem pb {bs:List UInt8}:∀{k:Nat},bq bs k=0↔∀x,x<k→bs.getD x 0=0
 |0=>⟨fun _ x A=>by omega,fun _=>rfl⟩
 |k+1=>by
  rw[bq,Nat.add_eq_zero_iff,pb (k:=k)];constructor
  ·rintro⟨h1,h2⟩ x A
   by_cases hk:x=k
   ·subst hk;exact UInt8.toNat_inj.1 h2
   ·exact h1 x (by omega)
  ·intro h
   exact⟨fun x A=>h x (by omega),by rw[h k (by omega)];rfl⟩
theorem qY {a b:List UInt8}:∀{k:Nat},(∀x,x<k→¬(148≤x∧x<156)→a.getD x 0=b.getD x 0)→dL a k=dL b k
 |0,_=>rfl
 |k+1,h=>by
  rw[dL,dL,qY (k:=k) fun x B A=>h x (by omega) A];split
  ·rfl
  ·rw[h k (by omega) ‹_›]
theorem xi:dL bs 512+bq (aw bs 6) 8=bq bs 512+256:=by
 have a:∀k,k≤148→dL bs k=bq bs k:=by
  intro k
  induction k with
  |zero=>intro _;rfl
  |succ k ih=>intro hk;rw[dL,bq,ih (by omega),if_neg (by omega)]
 have b:∀j,j≤8→dL bs (148+j)+bq (aw bs 6) j=bq bs (148+j)+32*j:=by
  intro j
  induction j with
  |zero=>intro _;rw[Nat.add_zero,a 148 (by omega)];rfl
  |succ j ih=>
   intro A;have:=ih (by omega);rw[show 148+(j+1)=(148+j)+1 by omega,dL,bq,bq,sE bs 6 j (by simp[aj];omega),if_pos (by omega),show fF 6+j=148+j from rfl];omega
 have c:∀j,dL bs (156+j)+bq (aw bs 6) 8=bq bs (156+j)+256:=by
  intro j
  induction j with
  |zero=>exact b 8 (by omega)
  |succ j ih=>rw[show 156+(j+1)=(156+j)+1 by omega,dL,bq.eq_2 bs (156+j),if_neg (by omega)];omega
 exact c 356
attribute [irreducible] dL bq cu
def aF (l:List UInt8):List UInt8:=l.takeWhile (· != 0)
theorem nW (h:∀x∈s,x≠0) (n:Nat):aF (s++List.replicate n 0)=s:=by
 unfold aF
 induction s with
 |nil=>
  cases n with
  |zero=>rfl
  |succ n=>rw[List.nil_append,List.replicate_succ,List.takeWhile_cons,if_neg (by decide)]
 |cons c t ih=>
  rw[List.cons_append,List.takeWhile_cons,if_pos (by simpa using h c (List.mem_cons_self ..)),ih fun x A=>h x (List.mem_cons_of_mem _ A)]
def eA:List UInt8:=[117,115,116,97,114,0,48,48]
def rf:List UInt8:=[117,115,116,97,114,32,32,0]
def kq (p s:List UInt8) (fp:Bool):List UInt8:=if fp=true∨p=[]then s else p++47::s
def jI (bs:List UInt8):Bool:=(List.range 5).all fun i=>LC (bk (aw bs (i+1)))
def dM (bs:List UInt8) (i:Nat):Int:=po (bk (aw bs i))
def K8 (bs:List UInt8):UInt8:=if(aw bs 7).getD 0 0=0 then 48 else(aw bs 7).getD 0 0
def qB (bs:List UInt8):Bool:=aw bs 9==rf
def iM (bs:List UInt8):ak:=
 ⟨kq (aF (aw bs 10)) (aF (aw bs 0)) (qB bs),aF (aw bs 8),K8 bs,dM bs 1,dM bs 2,dM bs 3,dM bs 5,dM bs 4,qB bs⟩
def ba (bs:List UInt8):ak × Int:=
 if bs.length≠512 then(bI,1)
 else if bk (aw bs 6)≠some (dL bs 512:Int)then(bI,3)
 else if aw bs 9≠eA∧aw bs 9≠rf then(bI,9)
 else if jI bs=true then(iM bs,0)else(bI,4)
theorem G4 (h:bs.length≠512):ba bs=(bI,1):=if_pos h
theorem vX (h:bs.length=512) (h1:bk (aw bs 6)≠some (dL bs 512:Int)):ba bs=(bI,3):=by
 rw[ba,if_neg (by simp[h]),if_pos h1]
theorem CJ (h:bs.length=512) (h1:bk (aw bs 6)=some (dL bs 512:Int)) (h2:aw bs 9≠eA∧aw bs 9≠rf):ba bs=(bI,9):=by
 rw[ba,if_neg (by simp[h]),if_neg (by simp[h1]),if_pos h2]
theorem vW (h:bs.length=512) (h1:bk (aw bs 6)=some (dL bs 512:Int)) (h2:aw bs 9=eA∨aw bs 9=rf) (h3:jI bs=false):ba bs=(bI,4):=by
 rw[ba,if_neg (by simp[h]),if_neg (by simp[h1]),if_neg (by rcases h2 with h2|h2<;>simp[h2]),if_neg (by simp[h3])]
theorem sP (h:bs.length=512) (h1:bk (aw bs 6)=some (dL bs 512:Int)) (h2:aw bs 9=eA∨aw bs 9=rf) (h3:jI bs=true):ba bs=(iM bs,0):=by
 rw[ba,if_neg (by simp[h]),if_neg (by simp[h1]),if_neg (by rcases h2 with h2|h2<;>simp[h2]),if_pos h3]
theorem ma:jI bs=true↔∀i,1≤i→i≤5→LC (bk (aw bs i))=true:=by
 unfold jI;rw[List.all_eq_true];constructor
 ·intro h i h1 A
  have:=h (i - 1) (List.mem_range.2 (by omega))
  rwa [show i - 1+1=i by omega]at this
 ·intro h i hi
  have:=List.mem_range.1 hi;exact h (i+1) (by omega) (by omega)
def eu (name:List UInt8) (i:Nat):Prop:=name.getD i 0=47∧1≤i∧i≤155∧i+2≤name.length∧name.length≤i+101
instance (name:List UInt8) (i:Nat):Decidable (eu name i):=by unfold eu;exact inferInstance
def Cn (name:List UInt8):Option Nat:=(List.range name.length).find? fun i=>decide (eu name i)
def gq (name:List UInt8):Option (List UInt8 × List UInt8):=
 if name.length≤100 then some ([],name)else(Cn name).map fun i=>(name.take i,name.drop (i+1))
theorem Gx (hk:eu name k) (ax:∀j,j<k→¬eu name j):Cn name=some k:=by
 have B:k<name.length:=by unfold eu at hk;omega
 unfold Cn;rw[List.find?_eq_some_iff_getElem];refine⟨by simpa using hk,k,by simpa using B,by simp,fun j A=>by simpa using ax j A⟩
theorem Gw (h:∀j,j<name.length→¬eu name j):Cn name=none:=by
 unfold Cn;rw[List.find?_eq_none];intro j A
 simpa using h j (List.mem_range.1 A)
theorem nM (h:name.length≤100):gq name=some ([],name):=if_pos h
theorem ND (h:¬name.length≤100) (hk:eu name k) (ax:∀j,j<k→¬eu name j):gq name=some (name.take k,name.drop (k+1)):=by
 rw[gq,if_neg h,Gx hk ax];rfl
theorem Gy (h:¬name.length≤100) (hn:∀j,j<name.length→¬eu name j):gq name=none:=by
 rw[gq,if_neg h,Gw hn];rfl
theorem pH (h:gq name=some (p,s)):s.length≤100∧p.length≤155∧((p=[]∧s=name)∨(p≠[]∧name=p++47::s)):=by
 unfold gq at h;split at h
 ·cases h
  exact⟨‹_›,by simp,Or.inl ⟨rfl,rfl⟩⟩
 ·cases hc:Cn name with
  |none=>rw[hc]at h;cases h
  |some k=>
   rw[hc]at h;simp only[Option.map_some,Option.some.injEq,Prod.mk.injEq]at h;obtain⟨rfl,rfl⟩:=h
   have hm:eu name k:=by
    unfold Cn at hc
    simpa using List.find?_some hc
   obtain⟨h1,D,E,G,H⟩:=hm;refine⟨by rw[Qe];omega,by rw[Qg];omega,Or.inr ⟨fun e=>?_,?_⟩⟩
   ·have:=congrArg List.length e
    rw[Qg,List.length_nil]at this;omega
   ·have hk:k<name.length:=by omega
    have A:name=name.take k++name.drop k:=(List.take_append_drop k name).symm;rw[List.drop_eq_getElem_cons hk]at A;have B:name[k]=47:=by simpa [List.getD,hk]using h1
    rw[B]at A;exact A
def iy (n:Nat) (s:List UInt8):List UInt8:=s++List.replicate (n - s.length) 0
theorem kV (h:s.length≤n):(iy n s).length=n:=by
 simp only[iy,Qf,List.length_replicate];omega
theorem yz (n:Nat) (s:List UInt8):fr (List.replicate n 0) s=iy n s:=by
 simp[fr,iy,List.drop_replicate]
def Dw (h:ak) (i:Nat):List UInt8:=bytesOf ((fh (j0 h i) (aj i)).getD [])
def fc (h:ak):Bool:=(List.range 5).all fun i=>(fh (j0 h (i+1)) (aj (i+1))).isSome
theorem du:fc h=true↔∀i,1≤i→i≤5→(fh (j0 h i) (aj i)).isSome=true:=by
 unfold fc;rw[List.all_eq_true];constructor
 ·intro g i h1 A
  have:=g (i - 1) (List.mem_range.2 (by omega))
  rwa [show i - 1+1=i by omega]at this
 ·intro g i hi
  have:=List.mem_range.1 hi;exact g (i+1) (by omega) (by omega)
theorem pZ {l:List Int} (hp:fh (j0 h i) (aj i)=some l):Dw h i=bytesOf l:=by rw[Dw,hp];rfl
theorem gW (hp:(fh (j0 h i) (aj i)).isSome=true):(Dw h i).length=aj i:=by
 obtain⟨l,hl⟩:=Option.isSome_iff_exists.1 hp;rw[pZ hl,bytesOf_length];have:=(qT hl).1;omega
def lh (h:ak):Bool:=h.fp||h.kind==0||decide (100<h.link.length)||h.name.contains 0||h.link.contains 0
def gB (h:ak) (p s:List UInt8) (i:Nat):List UInt8:=
 if i=0 then iy 100 s else if i=6 then List.replicate 8 0 else if i=7 then[h.kind]else if i=8 then iy 100 h.link else if i=9 then eA else if i=10 then iy 155 p else if i≤5 then Dw h i else[]
def vn (n:Nat):List UInt8:=bytesOf (eK 8 48 6 n++[0])++[32]
theorem mB (n:Nat):(vn n).length=8:=by simp[vn,bytesOf_length,dq]
def rB (h:ak) (p s:List UInt8):Nat→List UInt8:=Bz (gB h p s) 6 (vn (dL (cu (gB h p s)) 512))
def fi (h:ak):Option (List UInt8):=
 match gq h.name with
 |none=>none
 |some ps=>if lh h||!fc h then none else some (cu (rB h ps.1 ps.2))
theorem wJ (hs:s.length≤100) (hp:p.length≤155) (hl:h.link.length≤100) (hn:fc h=true):Fits (gB h p s):=fun i=>by
 unfold gB
 by_cases hi:i<11
 ·rcases kI hi with rfl|rfl|rfl|rfl|rfl|rfl|rfl|rfl|rfl|rfl|rfl
  ·simpa [aj]using kV hs
  ·simpa using gW (du.1 hn 1 (by omega) (by omega))
  ·simpa using gW (du.1 hn 2 (by omega) (by omega))
  ·simpa using gW (du.1 hn 3 (by omega) (by omega))
  ·simpa using gW (du.1 hn 4 (by omega) (by omega))
  ·simpa using gW (du.1 hn 5 (by omega) (by omega))
  ·simp[aj]
  ·simp[aj]
  ·simpa [aj]using kV hl
  ·simp[aj,eA]
  ·simpa [aj]using kV hp
 ·rw[qh hi,if_neg (by omega),if_neg (by omega),if_neg (by omega),if_neg (by omega),if_neg (by omega),if_neg (by omega),if_neg (by omega)]
  rfl
theorem Il (hs:s.length≤100) (hp:p.length≤155) (hl:h.link.length≤100) (hn:fc h=true):Fits (rB h p s):=
 (wJ hs hp hl hn).Bz (by rw[mB];rfl)
theorem LW (h:n<262144):dS 8 6 n=0:=by
 simp only[dS];omega
theorem AK (h:n<262144):fh n 7=some (eK 8 48 6 n++[0]):=p8 (by omega) (by omega) (by omega) (by omega) (LW h)
theorem DB (h:n<262144):bk (vn n)=some (n:Int):=by
 have:=o8 n 6 (by omega) (by omega) (by omega) (LW h) [] [0,32] (by simp) (by simp);rw[List.nil_append]at this;rw[vn,iX,List.append_assoc];exact this
theorem vG (hb:lh h=false):h.fp=false∧h.kind≠0∧h.link.length≤100∧(∀x∈h.name,x≠0)∧(∀x∈h.link,x≠0):=by
 simp only[lh,Bool.or_eq_false_iff,beq_eq_false_iff_ne,decide_eq_false_iff_not,List.contains_eq_mem,ne_eq]at hb;obtain⟨⟨⟨⟨h1,B⟩,G⟩,D⟩,E⟩:=hb;exact⟨h1,B,by omega,fun x A e=>D (e▸A),fun x A e=>E (e▸A)⟩
theorem KF (hc:gq h.name=some (p,s)) (hb:lh h=false) (hn:fc h=true) (hl:bs.length=512)
 (hf:∀i,i<11→i≠6→aw bs i=gB h p s i) (h6:aw bs 6=vn (dL bs 512)):ba bs=(h,0):=by
 obtain⟨U,hk,V,H,T⟩:=vG hb;obtain⟨hs,W,E⟩:=pH hc;have X:=pn bs 512
 have I:∀i,1≤i→i≤5→bk (aw bs i)=some (j0 h i):=fun i h1 A=>by
  obtain⟨l,hl⟩:=Option.isSome_iff_exists.1 (du.1 hn i h1 A);rw[hf i (by omega) (by omega),gB,if_neg (by omega),if_neg (by omega),if_neg (by omega),if_neg (by omega),if_neg (by omega),if_neg (by omega),if_pos A,pZ hl];exact AD hl
 have G:aw bs 9=eA:=by rw[hf 9 (by omega) (by omega)];simp[gB]
 rw[sP hl (by rw[h6];exact DB (by omega)) (Or.inl G) (ma.2 fun i h1 A=>by rw[I i h1 A];rfl)]
 have L:aF (aw bs 0)=s:=by
  rw[hf 0 (by omega) (by omega)];refine nW (fun x D=>H x ?_) _;rcases E with⟨_,rfl⟩|⟨_,e⟩
  ·exact D
  ·rw[e];simp[D]
 have J:aF (aw bs 10)=p:=by
  rw[hf 10 (by omega) (by omega)];refine nW (fun x D=>H x ?_) _;rcases E with⟨rfl,_⟩|⟨_,e⟩
  ·simp at D
  ·rw[e];simp[D]
 have N:aF (aw bs 8)=h.link:=by
  rw[hf 8 (by omega) (by omega)];exact nW T _
 have M:K8 bs=h.kind:=by
  have:aw bs 7=[h.kind]:=by rw[hf 7 (by omega) (by omega)];simp[gB]
  rw[K8,this];exact if_neg hk
 have O:qB bs=false:=by rw[qB,G];decide
 have B:∀i,1≤i→i≤5→dM bs i=j0 h i:=fun i h1 A=>by rw[dM,I i h1 A];rfl
 have R:kq p s false=h.name:=by
  unfold kq;rcases E with⟨rfl,rfl⟩|⟨cX,e⟩
  ·rw[if_pos (Or.inr rfl)]
  ·rw[if_neg (by simp[cX]),e]
 rw[iM,L,J,N,M,O,B 1 (by omega) (by omega),B 2 (by omega) (by omega),B 3 (by omega) (by omega),B 4 (by omega) (by omega),B 5 (by omega) (by omega),R]
 cases h
 simp only[j0]at*;rw[U]
theorem Ix (hp:fi h=some bs):∃p s,gq h.name=some (p,s)∧lh h=false∧fc h=true∧bs=cu (rB h p s):=by
 unfold fi at hp
 cases hc:gq h.name with
 |none=>rw[hc]at hp;cases hp
 |some ps=>
  rw[hc]at hp;simp only at hp;split at hp
  ·cases hp
  ·rename_i A
   simp only[Bool.or_eq_true,Bool.not_eq_true',not_or,Bool.not_eq_true,Bool.not_eq_false]at A;exact⟨ps.1,ps.2,rfl,A.1,A.2,(Option.some.inj hp).symm⟩
theorem Dz (hc:gq h.name=some (p,s)) (hb:lh h=false) (hn:fc h=true):
 (∀i,i<11→i≠6→aw (cu (rB h p s)) i=gB h p s i)∧aw (cu (rB h p s)) 6=vn (dL (cu (rB h p s)) 512):=by
 obtain⟨J,hk,D,H,I⟩:=vG hb;obtain⟨hs,G,L⟩:=pH hc;have B:=Il hs G D hn;refine⟨fun i hi E=>by rw[kK B hi,rB,iV _ _ E],?_⟩;rw[kK B (by omega),rB,mD];refine congrArg vn (qY fun x A hn=>?_);rw[gn _ A,gn _ A,iV _ _ (fun e=>hn ((rL (by omega)).1 e))]
theorem G5 (hp:fi h=some bs):ba bs=(h,0):=by
 obtain⟨p,s,hc,A,B,rfl⟩:=Ix hp;have:=Dz hc A B;exact KF hc A B (bV _) this.1 this.2
end Hp
end Go.Proofs.YtdhibldkldlfpaaGreatDoor
