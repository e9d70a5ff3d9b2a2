/- Merged. -/
import Derived.Test.YtdhibldkldlfpaaGreatDoorEmitLeastX2
import Derived.Test.YtdhibldkldlfpaaGreatDoorEmitLeastX11
import Derived.Laws.CopyOwn
namespace Go.Proofs.YtdhibldkldlfpaaGreatDoor
set_option linter.unusedVariables false
namespace Hp
open Go.Lib Fp
variable {l p s bs cs name:List UInt8} {i k n x:Nat} {own:Nat→List UInt8} {h:ak}
def fC:Nat→Nat
 |0=>0|1=>100|2=>108|3=>116|4=>124|5=>136|6=>148|7=>156|8=>157|9=>257|10=>345|_=>512
def aj:Nat→Nat
 |0=>100|1=>8|2=>8|3=>8|4=>12|5=>12|6=>8|7=>1|8=>100|9=>8|10=>155|_=>0
def xx (x:Nat):Nat:=
 if x<100 then 0 else if x<108 then 1 else if x<116 then 2 else if x<124 then 3 else if x<136 then 4 else if x<148 then 5 else if x<156 then 6 else if x<157 then 7 else if x<257 then 8 else if x<265 then 9 else if x<345 then 11 else if x<500 then 10 else 11
theorem kB (hi:i<11):i=0∨i=1∨i=2∨i=3∨i=4∨i=5∨i=6∨i=7∨i=8∨i=9∨i=10:=by omega
theorem Qo (x:Nat):∃v lo hi,xx x=v∧lo≤x∧x<hi∧((v=11∧lo=500)∨(v=11∧lo=265∧hi=345)∨(v<11∧fC v=lo∧fC v+aj v=hi)):=by
 by_cases A:x<100
 ·refine⟨0,0,100,?_,by omega,A,?_⟩
  ·unfold xx
   rw[if_pos A]
  ·exact Or.inr (Or.inr ⟨by decide,rfl,rfl⟩)
 by_cases h1:x<108
 ·refine⟨1,100,108,?_,by omega,h1,?_⟩
  ·unfold xx
   rw[if_neg A,if_pos h1]
  ·exact Or.inr (Or.inr ⟨by decide,rfl,rfl⟩)
 by_cases B:x<116
 ·refine⟨2,108,116,?_,by omega,B,?_⟩
  ·unfold xx
   rw[if_neg A,if_neg h1,if_pos B]
  ·exact Or.inr (Or.inr ⟨by decide,rfl,rfl⟩)
 by_cases D:x<124
 ·refine⟨3,116,124,?_,by omega,D,?_⟩
  ·unfold xx
   rw[if_neg A,if_neg h1,if_neg B,if_pos D]
  ·exact Or.inr (Or.inr ⟨by decide,rfl,rfl⟩)
 by_cases E:x<136
 ·refine⟨4,124,136,?_,by omega,E,?_⟩
  ·unfold xx
   rw[if_neg A,if_neg h1,if_neg B,if_neg D,if_pos E]
  ·exact Or.inr (Or.inr ⟨by decide,rfl,rfl⟩)
 by_cases G:x<148
 ·refine⟨5,136,148,?_,by omega,G,?_⟩
  ·unfold xx
   rw[if_neg A,if_neg h1,if_neg B,if_neg D,if_neg E,if_pos G]
  ·exact Or.inr (Or.inr ⟨by decide,rfl,rfl⟩)
 by_cases H:x<156
 ·refine⟨6,148,156,?_,by omega,H,?_⟩
  ·unfold xx
   rw[if_neg A,if_neg h1,if_neg B,if_neg D,if_neg E,if_neg G,if_pos H]
  ·exact Or.inr (Or.inr ⟨by decide,rfl,rfl⟩)
 by_cases I:x<157
 ·refine⟨7,156,157,?_,by omega,I,?_⟩
  ·unfold xx
   rw[if_neg A,if_neg h1,if_neg B,if_neg D,if_neg E,if_neg G,if_neg H,if_pos I]
  ·exact Or.inr (Or.inr ⟨by decide,rfl,rfl⟩)
 by_cases J:x<257
 ·refine⟨8,157,257,?_,by omega,J,?_⟩
  ·unfold xx
   rw[if_neg A,if_neg h1,if_neg B,if_neg D,if_neg E,if_neg G,if_neg H,if_neg I,if_pos J]
  ·exact Or.inr (Or.inr ⟨by decide,rfl,rfl⟩)
 by_cases L:x<265
 ·refine⟨9,257,265,?_,by omega,L,?_⟩
  ·unfold xx
   rw[if_neg A,if_neg h1,if_neg B,if_neg D,if_neg E,if_neg G,if_neg H,if_neg I,if_neg J,if_pos L]
  ·exact Or.inr (Or.inr ⟨by decide,rfl,rfl⟩)
 by_cases M:x<345
 ·refine⟨11,265,345,?_,by omega,M,?_⟩
  ·unfold xx
   rw[if_neg A,if_neg h1,if_neg B,if_neg D,if_neg E,if_neg G,if_neg H,if_neg I,if_neg J,if_neg L,if_pos M]
  ·exact Or.inr (Or.inl ⟨rfl,rfl,rfl⟩)
 by_cases N:x<500
 ·refine⟨10,345,500,?_,by omega,N,?_⟩
  ·unfold xx
   rw[if_neg A,if_neg h1,if_neg B,if_neg D,if_neg E,if_neg G,if_neg H,if_neg I,if_neg J,if_neg L,if_neg M,if_pos N]
  ·exact Or.inr (Or.inr ⟨by decide,rfl,rfl⟩)
 refine⟨11,500,x+1,?_,by omega,by omega,Or.inl ⟨rfl,rfl⟩⟩;unfold xx;rw[if_neg A,if_neg h1,if_neg B,if_neg D,if_neg E,if_neg G,if_neg H,if_neg I,if_neg J,if_neg L,if_neg M,if_neg N]
theorem JM {j:Nat} (hi:i<11) (hj:j<11) (cV:i≠j):fC i+aj i≤fC j∨fC j+aj j≤fC i:=by
 have h:∀i,i<11→∀j,j<11→i≠j→fC i+aj i≤fC j∨fC j+aj j≤fC i:=by decide
 exact h i hi j hj cV
theorem M9 (hi:i<11):fC i+aj i≤265∨345≤fC i∧fC i+aj i≤500:=by
 have h:∀i,i<11→(fC i+aj i≤265∨345≤fC i∧fC i+aj i≤500):=by decide
 exact h i hi
theorem rE (hi:i<11):xx x=i↔fC i≤x∧x<fC i+aj i:=by
 obtain⟨v,lo,E,e,h1,D,A⟩:=Qo x;have hf:=M9 hi;rw[e];rcases A with⟨rfl,rfl⟩|⟨rfl,rfl,rfl⟩|⟨A,rfl,rfl⟩
 ·omega
 ·omega
 ·constructor
  ·rintro rfl;exact⟨h1,D⟩
  ·intro h
   rcases Nat.decEq v i with B|rfl
   ·have:=JM A hi B
    omega
   ·rfl
theorem lK (hi:i<11):fC i+aj i≤512:=by
 rcases kB hi with rfl|rfl|rfl|rfl|rfl|rfl|rfl|rfl|rfl|rfl|rfl<;>simp[fC,aj]
theorem kq (hi:i<11):1≤aj i∧aj i≤155:=by
 rcases kB hi with rfl|rfl|rfl|rfl|rfl|rfl|rfl|rfl|rfl|rfl|rfl<;>simp[aj]
theorem p9 (hi:¬i<11):aj i=0:=by
 match i,hi with
 |0,hi|1,hi|2,hi|3,hi|4,hi|5,hi|6,hi|7,hi|8,hi|9,hi|10,hi=>exact absurd (by decide) hi
 |i+11,_=>rfl
theorem sD {m:List UInt8} (h:l.length=m.length) (hx:∀x,x<l.length→l.getD x 0=m.getD x 0):l=m:=by
 apply List.ext_getElem h;intro x h1 A;have:=hx x h1;rw[List.getD,List.getD,Qd h1,Qd A]at this
 simpa using this
def Fits (own:Nat→List UInt8):Prop:=∀i,(own i).length=aj i
def ct (own:Nat→List UInt8):List UInt8:=(List.range 512).map fun x=>(own (xx x)).getD (x - fC (xx x)) 0
theorem bU (own:Nat→List UInt8):(ct own).length=512:=by simp[ct]
theorem gd (own:Nat→List UInt8) (h:x<512):(ct own).getD x 0=(own (xx x)).getD (x - fC (xx x)) 0:=by
 simp[ct,List.getD,h]
def au (bs:List UInt8) (i:Nat):List UInt8:=(bs.drop (fC i)).take (aj i)
theorem jQ (hl:bs.length=512) (hi:i<11):(au bs i).length=aj i:=by
 have:=lK hi;simp only[au,Qg,Qe];omega
theorem sy (bs:List UInt8) (i j:Nat) (hj:j<aj i):(au bs i).getD j 0=bs.getD (fC i+j) 0:=by
 simp[au,List.getD,hj]
theorem kD (hf:Fits own) (hi:i<11):au (ct own) i=own i:=by
 have hl:=jQ (bU own) hi;refine sD (by rw[hl,hf i]) fun x A=>?_
 rw[hl]at A;have h1:=lK hi;rw[sy _ _ _ A,gd own (by omega),(rE hi).2 ⟨by omega,by omega⟩]
 congr 1
 omega
def Ba (own:Nat→List UInt8) (i:Nat) (l:List UInt8):Nat→List UInt8:=fun k=>if k=i then l else own k
theorem mB (own:Nat→List UInt8) (i:Nat) (l:List UInt8):Ba own i l i=l:=if_pos rfl
theorem iT (own:Nat→List UInt8) (l:List UInt8) (h:k≠i):Ba own i l k=own k:=if_neg h
theorem Fits.Ba (h:Fits own) (hl:l.length=aj i):Fits (Ba own i l):=fun k=>by
 by_cases hk:k=i
 ·subst hk;rw[mB];exact hl
 ·rw[iT _ _ hk];exact h k
def fi (old cs:List UInt8):List UInt8:=cs++old.drop cs.length
theorem tK {old:List UInt8} (h:cs.length≤old.length):(fi old cs).length=old.length:=by
 simp only[fi,Qf,Qe];omega
theorem tW (L cs:List UInt8) (off x:Nat) (h:off+cs.length≤L.length):(splice L off cs).getD x 0=if off≤x∧x<off+cs.length then cs.getD (x - off) 0 else L.getD x 0:=by
 unfold splice;have hm:min off L.length=off:=by omega
 simp only[List.getD,List.getElem?_append,Qg,hm]
 by_cases h1:x<off
 ·rw[if_pos h1,if_neg (by omega),List.getElem?_take,if_pos h1]
 ·rw[if_neg h1]
  by_cases A:x - off<cs.length
  ·rw[if_pos A,if_pos (by omega)]
  ·rw[if_neg A,if_neg (by omega),List.getElem?_drop]
   congr 2
   omega
theorem mr (L cs:List UInt8):splice L 0 cs=fi L cs:=by simp[splice,fi]
theorem An (old cs:List UInt8) (x:Nat) (h:cs.length≤old.length):(fi old cs).getD x 0=if x<cs.length then cs.getD x 0 else old.getD x 0:=by
 rw[←mr,tW _ _ _ _ (by omega)];simp
theorem uS (hf:Fits own) (hi:i<11) (hl:cs.length≤aj i):splice (ct own) (fC i) cs=ct (Ba own i (fi (own i) cs)):=by
 have h1:=lK hi;have E:(splice (ct own) (fC i) cs).length=512:=by rw[length_splice _ _ _ (by rw[bU];omega),bU]
 refine sD (by rw[E,bU]) fun x A=>?_
 rw[E]at A;rw[tW _ _ _ _ (by rw[bU];omega),gd _ A,gd _ A]
 by_cases B:fC i≤x∧x<fC i+aj i
 ·rw[(rE hi).2 B,mB,An _ _ _ (by rw[hf i];exact hl)]
  by_cases D:x - fC i<cs.length
  ·rw[if_pos (by omega),if_pos D]
  ·rw[if_neg (by omega),if_neg D]
 ·rw[if_neg (by omega),iT _ _ (fun e=>B ((rE hi).1 e))]
def fy:Nat→List UInt8:=fun i=>List.replicate (aj i) 0
theorem kX:Fits fy:=fun i=>List.length_replicate
theorem yW:ct fy=List.replicate 512 0:=by
 refine sD (by rw[bU,List.length_replicate]) fun x A=>?_
 rw[bU]at A;rw[gd _ A];simp only[fy,List.getD,List.getElem?_replicate,if_pos A];split<;>rfl
def cZ (bs:List UInt8):Nat→List UInt8:=fun i=>if i<11 then au bs i else[]
theorem Dw (hl:bs.length=512):Fits (cZ bs):=fun i=>by
 unfold cZ;split
 ·exact jQ hl ‹_›
 ·rw[p9 ‹_›];rfl
theorem zk {a b:Nat→List UInt8} (ha:Fits a) (hb:Fits b) (h:∀i,i<11→a i=b i):a=b:=by
 funext i
 by_cases hi:i<11
 ·exact h i hi
 ·have h1:=ha i
  have A:=hb i;rw[p9 hi]at h1 A;rw[List.eq_nil_of_length_eq_zero h1,List.eq_nil_of_length_eq_zero A]
def br (bs:List UInt8):Nat→Nat
 |0=>0
 |k+1=>br bs k+(bs.getD k 0).toNat
def dN (bs:List UInt8):Nat→Nat
 |0=>0
 |k+1=>dN bs k+(if 148≤k∧k<156 then 32 else(bs.getD k 0).toNat)
theorem jk (bs:List UInt8):∀k,br bs k≤255*k
 |0=>Qk _
 |k+1=>by have:=jk bs k;have:=(bs.getD k 0).toNat_lt;rw[br];omega
theorem o9 (bs:List UInt8):∀k,dN bs k≤255*k
 |0=>Qk _
 |k+1=>by have:=o9 bs k;have:=(bs.getD k 0).toNat_lt;rw[dN];split<;>omega
theorem oY {bs:List UInt8}:∀{k:Nat},br bs k=0↔∀x,x<k→bs.getD x 0=0
 |0=>⟨fun _ x A=>by omega,fun _=>rfl⟩
 |k+1=>by
  rw[br,Nat.add_eq_zero_iff,oY (k:=k)];constructor
  ·rintro⟨h1,h2⟩ x A
   by_cases hk:x=k
   ·subst hk;exact UInt8.toNat_inj.1 h2
   ·exact h1 x (by omega)
  ·intro h
   exact⟨fun x A=>h x (by omega),by rw[h k (by omega)];rfl⟩
theorem qS {a b:List UInt8}:∀{k:Nat},(∀x,x<k→¬(148≤x∧x<156)→a.getD x 0=b.getD x 0)→dN a k=dN b k
 |0,_=>rfl
 |k+1,h=>by
  rw[dN,dN,qS (k:=k) fun x B A=>h x (by omega) A];split
  ·rfl
  ·rw[h k (by omega) ‹_›]
theorem wT:dN bs 512+br (au bs 6) 8=br bs 512+256:=by
 have a:∀k,k≤148→dN bs k=br bs k:=by
  intro k
  induction k with
  |zero=>intro _;rfl
  |succ k ih=>intro hk;rw[dN,br,ih (by omega),if_neg (by omega)]
 have b:∀j,j≤8→dN bs (148+j)+br (au bs 6) j=br bs (148+j)+32*j:=by
  intro j
  induction j with
  |zero=>intro _;rw[Nat.add_zero,a 148 (by omega)];rfl
  |succ j ih=>
   intro A;have:=ih (by omega);rw[show 148+(j+1)=(148+j)+1 by omega,dN,br,br,sy bs 6 j (by simp[aj];omega),if_pos (by omega),show fC 6+j=148+j from rfl];omega
 have c:∀j,dN bs (156+j)+br (au bs 6) 8=br bs (156+j)+256:=by
  intro j
  induction j with
  |zero=>exact b 8 (by omega)
  |succ j ih=>rw[show 156+(j+1)=(156+j)+1 by omega,dN,br.eq_2 bs (156+j),if_neg (by omega)];omega
 exact c 356
attribute [irreducible] dN br ct
def aF (l:List UInt8):List UInt8:=l.takeWhile (· != 0)
theorem nR (h:∀x∈s,x≠0) (n:Nat):aF (s++List.replicate n 0)=s:=by
 unfold aF
 induction s with
 |nil=>
  cases n with
  |zero=>rfl
  |succ n=>rw[List.nil_append,List.replicate_succ,List.takeWhile_cons,if_neg (by decide)]
 |cons c t ih=>
  rw[List.cons_append,List.takeWhile_cons,if_pos (by simpa using h c (List.mem_cons_self ..)),ih fun x A=>h x (List.mem_cons_of_mem _ A)]
def ez:List UInt8:=[117,115,116,97,114,0,48,48]
def qX:List UInt8:=[117,115,116,97,114,32,32,0]
def kh (p s:List UInt8) (fh:Bool):List UInt8:=if fh=true∨p=[]then s else p++47::s
def jC (bs:List UInt8):Bool:=(List.range 5).all fun i=>Li (bp (au bs (i+1)))
def dO (bs:List UInt8) (i:Nat):Int:=pb (bp (au bs i))
def KQ (bs:List UInt8):UInt8:=if(au bs 7).getD 0 0=0 then 48 else(au bs 7).getD 0 0
def qt (bs:List UInt8):Bool:=au bs 9==qX
def iK (bs:List UInt8):ak:=
 ⟨kh (aF (au bs 10)) (aF (au bs 0)) (qt bs),aF (au bs 8),KQ bs,dO bs 1,dO bs 2,dO bs 3,dO bs 5,dO bs 4,qt bs⟩
def ba (bs:List UInt8):ak × Int:=
 if bs.length≠512 then(bG,1)
 else if bp (au bs 6)≠some (dN bs 512:Int)then(bG,3)
 else if au bs 9≠ez∧au bs 9≠qX then(bG,9)
 else if jC bs=true then(iK bs,0)else(bG,4)
theorem GN (h:bs.length≠512):ba bs=(bG,1):=if_pos h
theorem vH (h:bs.length=512) (h1:bp (au bs 6)≠some (dN bs 512:Int)):ba bs=(bG,3):=by
 rw[ba,if_neg (by simp[h]),if_pos h1]
theorem Cq (h:bs.length=512) (h1:bp (au bs 6)=some (dN bs 512:Int)) (h2:au bs 9≠ez∧au bs 9≠qX):ba bs=(bG,9):=by
 rw[ba,if_neg (by simp[h]),if_neg (by simp[h1]),if_pos h2]
theorem vG (h:bs.length=512) (h1:bp (au bs 6)=some (dN bs 512:Int)) (h2:au bs 9=ez∨au bs 9=qX) (h3:jC bs=false):ba bs=(bG,4):=by
 rw[ba,if_neg (by simp[h]),if_neg (by simp[h1]),if_neg (by rcases h2 with h2|h2<;>simp[h2]),if_neg (by simp[h3])]
theorem sK (h:bs.length=512) (h1:bp (au bs 6)=some (dN bs 512:Int)) (h2:au bs 9=ez∨au bs 9=qX) (h3:jC bs=true):ba bs=(iK bs,0):=by
 rw[ba,if_neg (by simp[h]),if_neg (by simp[h1]),if_neg (by rcases h2 with h2|h2<;>simp[h2]),if_pos h3]
theorem l8:jC bs=true↔∀i,1≤i→i≤5→Li (bp (au bs i))=true:=by
 unfold jC;rw[List.all_eq_true];constructor
 ·intro h i h1 A
  have:=h (i - 1) (List.mem_range.2 (by omega))
  rwa [show i - 1+1=i by omega]at this
 ·intro h i hi
  have:=List.mem_range.1 hi;exact h (i+1) (by omega) (by omega)
def et (name:List UInt8) (i:Nat):Prop:=name.getD i 0=47∧1≤i∧i≤155∧i+2≤name.length∧name.length≤i+101
instance (name:List UInt8) (i:Nat):Decidable (et name i):=by unfold et;exact inferInstance
def B5 (name:List UInt8):Option Nat:=(List.range name.length).find? fun i=>decide (et name i)
def gh (name:List UInt8):Option (List UInt8 × List UInt8):=
 if name.length≤100 then some ([],name)else(B5 name).map fun i=>(name.take i,name.drop (i+1))
theorem Gj (hk:et name k) (ax:∀j,j<k→¬et name j):B5 name=some k:=by
 have B:k<name.length:=by unfold et at hk;omega
 unfold B5;rw[List.find?_eq_some_iff_getElem];refine⟨by simpa using hk,k,by simpa using B,by simp,fun j A=>by simpa using ax j A⟩
theorem Gi (h:∀j,j<name.length→¬et name j):B5 name=none:=by
 unfold B5;rw[List.find?_eq_none];intro j A
 simpa using h j (List.mem_range.1 A)
theorem nH (h:name.length≤100):gh name=some ([],name):=if_pos h
theorem Nj (h:¬name.length≤100) (hk:et name k) (ax:∀j,j<k→¬et name j):gh name=some (name.take k,name.drop (k+1)):=by
 rw[gh,if_neg h,Gj hk ax];rfl
theorem Gk (h:¬name.length≤100) (hn:∀j,j<name.length→¬et name j):gh name=none:=by
 rw[gh,if_neg h,Gi hn];rfl
theorem pz (h:gh name=some (p,s)):s.length≤100∧p.length≤155∧((p=[]∧s=name)∨(p≠[]∧name=p++47::s)):=by
 unfold gh at h;split at h
 ·cases h
  exact⟨‹_›,by simp,Or.inl ⟨rfl,rfl⟩⟩
 ·cases hc:B5 name with
  |none=>rw[hc]at h;cases h
  |some k=>
   rw[hc]at h;simp only[Option.map_some,Option.some.injEq,Prod.mk.injEq]at h;obtain⟨rfl,rfl⟩:=h
   have hm:et name k:=by
    unfold B5 at hc
    simpa using List.find?_some hc
   obtain⟨h1,D,E,G,H⟩:=hm;refine⟨by rw[Qe];omega,by rw[Qg];omega,Or.inr ⟨fun e=>?_,?_⟩⟩
   ·have:=congrArg List.length e
    rw[Qg,List.length_nil]at this;omega
   ·have hk:k<name.length:=by omega
    have A:name=name.take k++name.drop k:=(List.take_append_drop k name).symm;rw[List.drop_eq_getElem_cons hk]at A;have B:name[k]=47:=by simpa [List.getD,hk]using h1
    rw[B]at A;exact A
def iw (n:Nat) (s:List UInt8):List UInt8:=s++List.replicate (n - s.length) 0
theorem kR (h:s.length≤n):(iw n s).length=n:=by
 simp only[iw,Qf,List.length_replicate];omega
theorem yh (n:Nat) (s:List UInt8):fi (List.replicate n 0) s=iw n s:=by
 simp[fi,iw,List.drop_replicate]
def Dh (h:ak) (i:Nat):List UInt8:=bytesOf ((eZ (jV h i) (aj i)).getD [])
def eV (h:ak):Bool:=(List.range 5).all fun i=>(eZ (jV h (i+1)) (aj (i+1))).isSome
theorem dt:eV h=true↔∀i,1≤i→i≤5→(eZ (jV h i) (aj i)).isSome=true:=by
 unfold eV;rw[List.all_eq_true];constructor
 ·intro g i h1 A
  have:=g (i - 1) (List.mem_range.2 (by omega))
  rwa [show i - 1+1=i by omega]at this
 ·intro g i hi
  have:=List.mem_range.1 hi;exact g (i+1) (by omega) (by omega)
theorem pQ {l:List Int} (hp:eZ (jV h i) (aj i)=some l):Dh h i=bytesOf l:=by rw[Dh,hp];rfl
theorem gV (hp:(eZ (jV h i) (aj i)).isSome=true):(Dh h i).length=aj i:=by
 obtain⟨l,hl⟩:=Option.isSome_iff_exists.1 hp;rw[pQ hl,bytesOf_length];have:=(qM hl).1;omega
def lg (h:ak):Bool:=h.fh||h.kind==0||decide (100<h.link.length)||h.name.contains 0||h.link.contains 0
def gA (h:ak) (p s:List UInt8) (i:Nat):List UInt8:=
 if i=0 then iw 100 s else if i=6 then List.replicate 8 0 else if i=7 then[h.kind]else if i=8 then iw 100 h.link else if i=9 then ez else if i=10 then iw 155 p else if i≤5 then Dh h i else[]
def uU (n:Nat):List UInt8:=bytesOf (eG 8 48 6 n++[0])++[32]
theorem my (n:Nat):(uU n).length=8:=by simp[uU,bytesOf_length,dj]
def rp (h:ak) (p s:List UInt8):Nat→List UInt8:=Ba (gA h p s) 6 (uU (dN (ct (gA h p s)) 512))
def fa (h:ak):Option (List UInt8):=
 match gh h.name with
 |none=>none
 |some ps=>if lg h||!eV h then none else some (ct (rp h ps.1 ps.2))
theorem vX (hs:s.length≤100) (hp:p.length≤155) (hl:h.link.length≤100) (hn:eV h=true):Fits (gA h p s):=fun i=>by
 unfold gA
 by_cases hi:i<11
 ·rcases kB hi with rfl|rfl|rfl|rfl|rfl|rfl|rfl|rfl|rfl|rfl|rfl
  ·simpa [aj]using kR hs
  ·simpa using gV (dt.1 hn 1 (by omega) (by omega))
  ·simpa using gV (dt.1 hn 2 (by omega) (by omega))
  ·simpa using gV (dt.1 hn 3 (by omega) (by omega))
  ·simpa using gV (dt.1 hn 4 (by omega) (by omega))
  ·simpa using gV (dt.1 hn 5 (by omega) (by omega))
  ·simp[aj]
  ·simp[aj]
  ·simpa [aj]using kR hl
  ·simp[aj,ez]
  ·simpa [aj]using kR hp
 ·rw[p9 hi,if_neg (by omega),if_neg (by omega),if_neg (by omega),if_neg (by omega),if_neg (by omega),if_neg (by omega),if_neg (by omega)]
  rfl
theorem Hx (hs:s.length≤100) (hp:p.length≤155) (hl:h.link.length≤100) (hn:eV h=true):Fits (rp h p s):=
 (vX hs hp hl hn).Ba (by rw[my];rfl)
theorem LB (h:n<262144):dV 8 6 n=0:=by
 simp only[dV];omega
theorem Am (h:n<262144):eZ n 7=some (eG 8 48 6 n++[0]):=pT (by omega) (by omega) (by omega) (by omega) (LB h)
theorem Dm (h:n<262144):bp (uU n)=some (n:Int):=by
 have:=oW n 6 (by omega) (by omega) (by omega) (LB h) [] [0,32] (by simp) (by simp);rw[List.nil_append]at this;rw[uU,iV,List.append_assoc];exact this
theorem vn (hb:lg h=false):h.fh=false∧h.kind≠0∧h.link.length≤100∧(∀x∈h.name,x≠0)∧(∀x∈h.link,x≠0):=by
 simp only[lg,Bool.or_eq_false_iff,beq_eq_false_iff_ne,decide_eq_false_iff_not,List.contains_eq_mem,ne_eq]at hb;obtain⟨⟨⟨⟨h1,B⟩,G⟩,D⟩,E⟩:=hb;exact⟨h1,B,by omega,fun x A e=>D (e▸A),fun x A e=>E (e▸A)⟩
theorem Kj (hc:gh h.name=some (p,s)) (hb:lg h=false) (hn:eV h=true) (hl:bs.length=512)
 (hf:∀i,i<11→i≠6→au bs i=gA h p s i) (h6:au bs 6=uU (dN bs 512)):ba bs=(h,0):=by
 obtain⟨U,hk,V,H,O⟩:=vn hb;obtain⟨hs,W,E⟩:=pz hc;have X:=o9 bs 512
 have I:∀i,1≤i→i≤5→bp (au bs i)=some (jV h i):=fun i h1 A=>by
  obtain⟨l,hl⟩:=Option.isSome_iff_exists.1 (dt.1 hn i h1 A);rw[hf i (by omega) (by omega),gA,if_neg (by omega),if_neg (by omega),if_neg (by omega),if_neg (by omega),if_neg (by omega),if_neg (by omega),if_pos A,pQ hl];exact Ag hl
 have G:au bs 9=ez:=by rw[hf 9 (by omega) (by omega)];simp[gA]
 rw[sK hl (by rw[h6];exact Dm (by omega)) (Or.inl G) (l8.2 fun i h1 A=>by rw[I i h1 A];rfl)]
 have L:aF (au bs 0)=s:=by
  rw[hf 0 (by omega) (by omega)];refine nR (fun x D=>H x ?_) _;rcases E with⟨_,rfl⟩|⟨_,e⟩
  ·exact D
  ·rw[e];simp[D]
 have J:aF (au bs 10)=p:=by
  rw[hf 10 (by omega) (by omega)];refine nR (fun x D=>H x ?_) _;rcases E with⟨rfl,_⟩|⟨_,e⟩
  ·simp at D
  ·rw[e];simp[D]
 have N:aF (au bs 8)=h.link:=by
  rw[hf 8 (by omega) (by omega)];exact nR O _
 have M:KQ bs=h.kind:=by
  have:au bs 7=[h.kind]:=by rw[hf 7 (by omega) (by omega)];simp[gA]
  rw[KQ,this];exact if_neg hk
 have R:qt bs=false:=by rw[qt,G];decide
 have B:∀i,1≤i→i≤5→dO bs i=jV h i:=fun i h1 A=>by rw[dO,I i h1 A];rfl
 have T:kh p s false=h.name:=by
  unfold kh;rcases E with⟨rfl,rfl⟩|⟨cV,e⟩
  ·rw[if_pos (Or.inr rfl)]
  ·rw[if_neg (by simp[cV]),e]
 rw[iK,L,J,N,M,R,B 1 (by omega) (by omega),B 2 (by omega) (by omega),B 3 (by omega) (by omega),B 4 (by omega) (by omega),B 5 (by omega) (by omega),T]
 cases h
 simp only[jV]at*;rw[U]
theorem Ie (hp:fa h=some bs):∃p s,gh h.name=some (p,s)∧lg h=false∧eV h=true∧bs=ct (rp h p s):=by
 unfold fa at hp
 cases hc:gh h.name with
 |none=>rw[hc]at hp;cases hp
 |some ps=>
  rw[hc]at hp;simp only at hp;split at hp
  ·cases hp
  ·rename_i A
   simp only[Bool.or_eq_true,Bool.not_eq_true',not_or,Bool.not_eq_true,Bool.not_eq_false]at A;exact⟨ps.1,ps.2,rfl,A.1,A.2,(Option.some.inj hp).symm⟩
theorem Dk (hc:gh h.name=some (p,s)) (hb:lg h=false) (hn:eV h=true):
 (∀i,i<11→i≠6→au (ct (rp h p s)) i=gA h p s i)∧au (ct (rp h p s)) 6=uU (dN (ct (rp h p s)) 512):=by
 obtain⟨J,hk,D,H,I⟩:=vn hb;obtain⟨hs,G,L⟩:=pz hc;have B:=Hx hs G D hn;refine⟨fun i hi E=>by rw[kD B hi,rp,iT _ _ E],?_⟩;rw[kD B (by omega),rp,mB];refine congrArg uU (qS fun x A hn=>?_);rw[gd _ A,gd _ A,iT _ _ (fun e=>hn ((rE (by omega)).1 e))]
theorem GO (hp:fa h=some bs):ba bs=(h,0):=by
 obtain⟨p,s,hc,A,B,rfl⟩:=Ie hp;have:=Dk hc A B;exact Kj hc A B (bU _) this.1 this.2
end Hp
end Go.Proofs.YtdhibldkldlfpaaGreatDoor
