/- Merged. -/
import Derived.Test.YtdhibldkldlfpaaGreatDoorEmitUnpacksX2
import Derived.Test.YtdhibldkldlfpaaGreatDoorEmitUnpacksX11
import Derived.Laws.CopyOwn
namespace Go.Proofs.YtdhibldkldlfpaaGreatDoor
set_option linter.unusedVariables false
namespace Hp
open Go.Lib Fp
variable {l p s bs cs name:List UInt8} {i k n x:Nat} {own:Nat→List UInt8} {h:af}
def nH:Nat→Nat
 |0=>0|1=>100|2=>108|3=>116|4=>124|5=>136|6=>148|7=>156|8=>157|9=>257|10=>345|_=>512
def aq:Nat→Nat
 |0=>100|1=>8|2=>8|3=>8|4=>12|5=>12|6=>8|7=>1|8=>100|9=>8|10=>155|_=>0
def Gu (x:Nat):Nat:=
 if x<100 then 0 else if x<108 then 1 else if x<116 then 2 else if x<124 then 3 else if x<136 then 4 else if x<148 then 5 else if x<156 then 6 else if x<157 then 7 else if x<257 then 8 else if x<265 then 9 else if x<345 then 11 else if x<500 then 10 else 11
theorem th (hi:i<11):i=0∨i=1∨i=2∨i=3∨i=4∨i=5∨i=6∨i=7∨i=8∨i=9∨i=10:=by omega
theorem ad1 (x:Nat):∃v lo hi,Gu x=v∧lo≤x∧x<hi∧((v=11∧lo=500)∨(v=11∧lo=265∧hi=345)∨(v<11∧nH v=lo∧nH v+aq v=hi)):=by
 by_cases A:x<100
 ·refine⟨0,0,100,?_,by omega,A,?_⟩
  ·unfold Gu
   rw[if_pos A]
  ·exact Or.inr (Or.inr ⟨by decide,rfl,rfl⟩)
 by_cases h1:x<108
 ·refine⟨1,100,108,?_,by omega,h1,?_⟩
  ·unfold Gu
   rw[if_neg A,if_pos h1]
  ·exact Or.inr (Or.inr ⟨by decide,rfl,rfl⟩)
 by_cases B:x<116
 ·refine⟨2,108,116,?_,by omega,B,?_⟩
  ·unfold Gu
   rw[if_neg A,if_neg h1,if_pos B]
  ·exact Or.inr (Or.inr ⟨by decide,rfl,rfl⟩)
 by_cases D:x<124
 ·refine⟨3,116,124,?_,by omega,D,?_⟩
  ·unfold Gu
   rw[if_neg A,if_neg h1,if_neg B,if_pos D]
  ·exact Or.inr (Or.inr ⟨by decide,rfl,rfl⟩)
 by_cases E:x<136
 ·refine⟨4,124,136,?_,by omega,E,?_⟩
  ·unfold Gu
   rw[if_neg A,if_neg h1,if_neg B,if_neg D,if_pos E]
  ·exact Or.inr (Or.inr ⟨by decide,rfl,rfl⟩)
 by_cases G:x<148
 ·refine⟨5,136,148,?_,by omega,G,?_⟩
  ·unfold Gu
   rw[if_neg A,if_neg h1,if_neg B,if_neg D,if_neg E,if_pos G]
  ·exact Or.inr (Or.inr ⟨by decide,rfl,rfl⟩)
 by_cases H:x<156
 ·refine⟨6,148,156,?_,by omega,H,?_⟩
  ·unfold Gu
   rw[if_neg A,if_neg h1,if_neg B,if_neg D,if_neg E,if_neg G,if_pos H]
  ·exact Or.inr (Or.inr ⟨by decide,rfl,rfl⟩)
 by_cases I:x<157
 ·refine⟨7,156,157,?_,by omega,I,?_⟩
  ·unfold Gu
   rw[if_neg A,if_neg h1,if_neg B,if_neg D,if_neg E,if_neg G,if_neg H,if_pos I]
  ·exact Or.inr (Or.inr ⟨by decide,rfl,rfl⟩)
 by_cases J:x<257
 ·refine⟨8,157,257,?_,by omega,J,?_⟩
  ·unfold Gu
   rw[if_neg A,if_neg h1,if_neg B,if_neg D,if_neg E,if_neg G,if_neg H,if_neg I,if_pos J]
  ·exact Or.inr (Or.inr ⟨by decide,rfl,rfl⟩)
 by_cases L:x<265
 ·refine⟨9,257,265,?_,by omega,L,?_⟩
  ·unfold Gu
   rw[if_neg A,if_neg h1,if_neg B,if_neg D,if_neg E,if_neg G,if_neg H,if_neg I,if_neg J,if_pos L]
  ·exact Or.inr (Or.inr ⟨by decide,rfl,rfl⟩)
 by_cases M:x<345
 ·refine⟨11,265,345,?_,by omega,M,?_⟩
  ·unfold Gu
   rw[if_neg A,if_neg h1,if_neg B,if_neg D,if_neg E,if_neg G,if_neg H,if_neg I,if_neg J,if_neg L,if_pos M]
  ·exact Or.inr (Or.inl ⟨rfl,rfl,rfl⟩)
 by_cases N:x<500
 ·refine⟨10,345,500,?_,by omega,N,?_⟩
  ·unfold Gu
   rw[if_neg A,if_neg h1,if_neg B,if_neg D,if_neg E,if_neg G,if_neg H,if_neg I,if_neg J,if_neg L,if_neg M,if_pos N]
  ·exact Or.inr (Or.inr ⟨by decide,rfl,rfl⟩)
 refine⟨11,500,x+1,?_,by omega,by omega,Or.inl ⟨rfl,rfl⟩⟩;unfold Gu;rw[if_neg A,if_neg h1,if_neg B,if_neg D,if_neg E,if_neg G,if_neg H,if_neg I,if_neg J,if_neg L,if_neg M,if_neg N]
theorem TQ {j:Nat} (hi:i<11) (hj:j<11) (ck:i≠j):nH i+aq i≤nH j∨nH j+aq j≤nH i:=by
 have h:∀i,i<11→∀j,j<11→i≠j→nH i+aq i≤nH j∨nH j+aq j≤nH i:=by decide
 exact h i hi j hj ck
theorem XI (hi:i<11):nH i+aq i≤265∨345≤nH i∧nH i+aq i≤500:=by
 have h:∀i,i<11→(nH i+aq i≤265∨345≤nH i∧nH i+aq i≤500):=by decide
 exact h i hi
theorem Bq (hi:i<11):Gu x=i↔nH i≤x∧x<nH i+aq i:=by
 obtain⟨v,lo,E,e,h1,D,A⟩:=ad1 x;have hf:=XI hi;rw[e];rcases A with⟨rfl,rfl⟩|⟨rfl,rfl,rfl⟩|⟨A,rfl,rfl⟩
 ·omega
 ·omega
 ·constructor
  ·rintro rfl;exact⟨h1,D⟩
  ·intro h
   rcases Nat.decEq v i with B|rfl
   ·have:=TQ A hi B
    omega
   ·rfl
theorem uD (hi:i<11):nH i+aq i≤512:=by
 rcases th hi with rfl|rfl|rfl|rfl|rfl|rfl|rfl|rfl|rfl|rfl|rfl<;>simp[nH,aq]
theorem sS (hi:i<11):1≤aq i∧aq i≤155:=by
 rcases th hi with rfl|rfl|rfl|rfl|rfl|rfl|rfl|rfl|rfl|rfl|rfl<;>simp[aq]
theorem zM (hi:¬i<11):aq i=0:=by
 match i,hi with
 |0,hi|1,hi|2,hi|3,hi|4,hi|5,hi|6,hi|7,hi|8,hi|9,hi|10,hi=>exact absurd (by decide) hi
 |i+11,_=>rfl
theorem Cg {m:List UInt8} (h:l.length=m.length) (hx:∀x,x<l.length→l.getD x 0=m.getD x 0):l=m:=by
 apply List.ext_getElem h;intro x h1 A;have:=hx x h1;rw[List.getD,List.getD,Qd h1,Qd A]at this
 simpa using this
def Fits (own:Nat→List UInt8):Prop:=∀i,(own i).length=aq i
def iY (own:Nat→List UInt8):List UInt8:=(List.range 512).map fun x=>(own (Gu x)).getD (x - nH (Gu x)) 0
theorem iE (own:Nat→List UInt8):(iY own).length=512:=by simp[iY]
theorem o6 (own:Nat→List UInt8) (h:x<512):(iY own).getD x 0=(own (Gu x)).getD (x - nH (Gu x)) 0:=by
 simp[iY,List.getD,h]
def aj (bs:List UInt8) (i:Nat):List UInt8:=(bs.drop (nH i)).take (aq i)
theorem iG (hl:bs.length=512) (hi:i<11):(aj bs i).length=aq i:=by
 have:=uD hi;simp only[aj,Qg,Qe];omega
theorem tk (bs:List UInt8) (i j:Nat) (hj:j<aq i):(aj bs i).getD j 0=bs.getD (nH i+j) 0:=by
 simp[aj,List.getD,hj]
theorem tn (hf:Fits own) (hi:i<11):aj (iY own) i=own i:=by
 have hl:=iG (iE own) hi;refine Cg (by rw[hl,hf i]) fun x A=>?_
 rw[hl]at A;have h1:=uD hi;rw[tk _ _ _ A,o6 own (by omega),(Bq hi).2 ⟨by omega,by omega⟩]
 congr 1
 omega
def KO (own:Nat→List UInt8) (i:Nat) (l:List UInt8):Nat→List UInt8:=fun k=>if k=i then l else own k
theorem vu (own:Nat→List UInt8) (i:Nat) (l:List UInt8):KO own i l i=l:=if_pos rfl
theorem qL (own:Nat→List UInt8) (l:List UInt8) (h:k≠i):KO own i l k=own k:=if_neg h
theorem Fits.KO (h:Fits own) (hl:l.length=aq i):Fits (KO own i l):=fun k=>by
 by_cases hk:k=i
 ·subst hk;rw[vu];exact hl
 ·rw[qL _ _ hk];exact h k
def nN (old cs:List UInt8):List UInt8:=cs++old.drop cs.length
theorem Dg {old:List UInt8} (h:cs.length≤old.length):(nN old cs).length=old.length:=by
 simp only[nN,Qf,Qe];omega
theorem DA (L cs:List UInt8) (off x:Nat) (h:off+cs.length≤L.length):(splice L off cs).getD x 0=if off≤x∧x<off+cs.length then cs.getD (x - off) 0 else L.getD x 0:=by
 unfold splice;have hm:min off L.length=off:=by omega
 simp only[List.getD,List.getElem?_append,Qg,hm]
 by_cases h1:x<off
 ·rw[if_pos h1,if_neg (by omega),List.getElem?_take,if_pos h1]
 ·rw[if_neg h1]
  by_cases A:x - off<cs.length
  ·rw[if_pos A,if_pos (by omega)]
  ·rw[if_neg A,if_neg (by omega),List.getElem?_drop]
   congr 2
   omega
theorem vf (L cs:List UInt8):splice L 0 cs=nN L cs:=by simp[splice,nN]
theorem J6 (old cs:List UInt8) (x:Nat) (h:cs.length≤old.length):(nN old cs).getD x 0=if x<cs.length then cs.getD x 0 else old.getD x 0:=by
 rw[←vf,DA _ _ _ _ (by omega)];simp
theorem El (hf:Fits own) (hi:i<11) (hl:cs.length≤aq i):splice (iY own) (nH i) cs=iY (KO own i (nN (own i) cs)):=by
 have h1:=uD hi;have D:(splice (iY own) (nH i) cs).length=512:=by rw[length_splice _ _ _ (by rw[iE];omega),iE]
 refine Cg (by rw[D,iE]) fun x A=>?_
 rw[D]at A;rw[DA _ _ _ _ (by rw[iE];omega),o6 _ A,o6 _ A]
 by_cases E:nH i≤x∧x<nH i+aq i
 ·rw[(Bq hi).2 E,vu,J6 _ _ _ (by rw[hf i];exact hl)]
  by_cases B:x - nH i<cs.length
  ·rw[if_pos (by omega),if_pos B]
  ·rw[if_neg (by omega),if_neg B]
 ·rw[if_neg (by omega),qL _ _ (fun e=>E ((Bq hi).1 e))]
def oh:Nat→List UInt8:=fun i=>List.replicate (aq i) 0
theorem tW:Fits oh:=fun i=>List.length_replicate
theorem IM:iY oh=List.replicate 512 0:=by
 refine Cg (by rw[iE,List.length_replicate]) fun x A=>?_
 rw[iE]at A;rw[o6 _ A];simp only[oh,List.getD,List.getElem?_replicate,if_pos A];split<;>rfl
def jG (bs:List UInt8):Nat→List UInt8:=fun i=>if i<11 then aj bs i else[]
theorem Na (hl:bs.length=512):Fits (jG bs):=fun i=>by
 unfold jG;split
 ·exact iG hl ‹_›
 ·rw[zM ‹_›];rfl
theorem I8 {a b:Nat→List UInt8} (ha:Fits a) (hb:Fits b) (h:∀i,i<11→a i=b i):a=b:=by
 funext i
 by_cases hi:i<11
 ·exact h i hi
 ·have h1:=ha i
  have A:=hb i;rw[zM hi]at h1 A;rw[List.eq_nil_of_length_eq_zero h1,List.eq_nil_of_length_eq_zero A]
def bP (bs:List UInt8):Nat→Nat
 |0=>0
 |k+1=>bP bs k+(bs.getD k 0).toNat
def jg (bs:List UInt8):Nat→Nat
 |0=>0
 |k+1=>jg bs k+(if 148≤k∧k<156 then 32 else(bs.getD k 0).toNat)
theorem rp (bs:List UInt8):∀k,bP bs k≤255*k
 |0=>Qk _
 |k+1=>by have:=rp bs k;have:=(bs.getD k 0).toNat_lt;rw[bP];omega
theorem vq (bs:List UInt8):∀k,jg bs k≤255*k
 |0=>Qk _
 |k+1=>by have:=vq bs k;have:=(bs.getD k 0).toNat_lt;rw[jg];split<;>omega
theorem yA {bs:List UInt8}:∀{k:Nat},bP bs k=0↔∀x,x<k→bs.getD x 0=0
 |0=>⟨fun _ x A=>by omega,fun _=>rfl⟩
 |k+1=>by
  rw[bP,Nat.add_eq_zero_iff,yA (k:=k)];constructor
  ·rintro⟨h1,h2⟩ x A
   by_cases hk:x=k
   ·subst hk;exact UInt8.toNat_inj.1 h2
   ·exact h1 x (by omega)
  ·intro h
   exact⟨fun x A=>h x (by omega),by rw[h k (by omega)];rfl⟩
theorem AL {a b:List UInt8}:∀{k:Nat},(∀x,x<k→¬(148≤x∧x<156)→a.getD x 0=b.getD x 0)→jg a k=jg b k
 |0,_=>rfl
 |k+1,h=>by
  rw[jg,jg,AL (k:=k) fun x B A=>h x (by omega) A];split
  ·rfl
  ·rw[h k (by omega) ‹_›]
theorem FW:jg bs 512+bP (aj bs 6) 8=bP bs 512+256:=by
 have a:∀k,k≤148→jg bs k=bP bs k:=by
  intro k
  induction k with
  |zero=>intro _;rfl
  |succ k ih=>intro hk;rw[jg,bP,ih (by omega),if_neg (by omega)]
 have b:∀j,j≤8→jg bs (148+j)+bP (aj bs 6) j=bP bs (148+j)+32*j:=by
  intro j
  induction j with
  |zero=>intro _;rw[Nat.add_zero,a 148 (by omega)];rfl
  |succ j ih=>
   intro A;have:=ih (by omega);rw[show 148+(j+1)=(148+j)+1 by omega,jg,bP,bP,tk bs 6 j (by simp[aq];omega),if_pos (by omega),show nH 6+j=148+j from rfl];omega
 have c:∀j,jg bs (156+j)+bP (aj bs 6) 8=bP bs (156+j)+256:=by
  intro j
  induction j with
  |zero=>exact b 8 (by omega)
  |succ j ih=>rw[show 156+(j+1)=(156+j)+1 by omega,jg,bP.eq_2 bs (156+j),if_neg (by omega)];omega
 exact c 356
attribute [irreducible] jg bP iY
def av (l:List UInt8):List UInt8:=l.takeWhile (· != 0)
theorem rA (h:∀x∈s,x≠0) (n:Nat):av (s++List.replicate n 0)=s:=by
 unfold av
 induction s with
 |nil=>
  cases n with
  |zero=>rfl
  |succ n=>rw[List.nil_append,List.replicate_succ,List.takeWhile_cons,if_neg (by decide)]
 |cons c t ih=>
  rw[List.cons_append,List.takeWhile_cons,if_pos (by simpa using h c (List.mem_cons_self ..)),ih fun x A=>h x (List.mem_cons_of_mem _ A)]
def kf:List UInt8:=[117,115,116,97,114,0,48,48]
def xZ:List UInt8:=[117,115,116,97,114,32,32,0]
def o4 (p s:List UInt8) (j7:Bool):List UInt8:=if j7=true∨p=[]then s else p++47::s
def qz (bs:List UInt8):Bool:=(List.range 5).all fun i=>BF (aY (aj bs (i+1)))
def iW (bs:List UInt8) (i:Nat):Int:=tU (aY (aj bs i))
def CA (bs:List UInt8):UInt8:=if(aj bs 7).getD 0 0=0 then 48 else(aj bs 7).getD 0 0
def x9 (bs:List UInt8):Bool:=aj bs 9==xZ
def oS (bs:List UInt8):af:=
 ⟨o4 (av (aj bs 10)) (av (aj bs 0)) (x9 bs),av (aj bs 8),CA bs,iW bs 1,iW bs 2,iW bs 3,iW bs 5,iW bs 4,x9 bs⟩
def aR (bs:List UInt8):af × Int:=
 if bs.length≠512 then(bg,1)
 else if aY (aj bs 6)≠some (jg bs 512:Int)then(bg,3)
 else if aj bs 9≠kf∧aj bs 9≠xZ then(bg,9)
 else if qz bs=true then(oS bs,0)else(bg,4)
theorem E6 (h:bs.length≠512):aR bs=(bg,1):=if_pos h
theorem vH (h:bs.length=512) (h1:aY (aj bs 6)≠some (jg bs 512:Int)):aR bs=(bg,3):=by
 rw[aR,if_neg (by simp[h]),if_pos h1]
theorem Cp (h:bs.length=512) (h1:aY (aj bs 6)=some (jg bs 512:Int)) (h2:aj bs 9≠kf∧aj bs 9≠xZ):aR bs=(bg,9):=by
 rw[aR,if_neg (by simp[h]),if_neg (by simp[h1]),if_pos h2]
theorem zj (h:bs.length=512) (h1:aY (aj bs 6)=some (jg bs 512:Int)) (h2:aj bs 9=kf∨aj bs 9=xZ) (h3:qz bs=false):aR bs=(bg,4):=by
 rw[aR,if_neg (by simp[h]),if_neg (by simp[h1]),if_neg (by rcases h2 with h2|h2<;>simp[h2]),if_neg (by simp[h3])]
theorem yf (h:bs.length=512) (h1:aY (aj bs 6)=some (jg bs 512:Int)) (h2:aj bs 9=kf∨aj bs 9=xZ) (h3:qz bs=true):aR bs=(oS bs,0):=by
 rw[aR,if_neg (by simp[h]),if_neg (by simp[h1]),if_neg (by rcases h2 with h2|h2<;>simp[h2]),if_pos h3]
theorem pR:qz bs=true↔∀i,1≤i→i≤5→BF (aY (aj bs i))=true:=by
 unfold qz;rw[List.all_eq_true];constructor
 ·intro h i h1 A
  have:=h (i - 1) (List.mem_range.2 (by omega))
  rwa [show i - 1+1=i by omega]at this
 ·intro h i hi
  have:=List.mem_range.1 hi;exact h (i+1) (by omega) (by omega)
def kO (name:List UInt8) (i:Nat):Prop:=name.getD i 0=47∧1≤i∧i≤155∧i+2≤name.length∧name.length≤i+101
instance (name:List UInt8) (i:Nat):Decidable (kO name i):=by unfold kO;exact inferInstance
def LD (name:List UInt8):Option Nat:=(List.range name.length).find? fun i=>decide (kO name i)
def o7 (name:List UInt8):Option (List UInt8 × List UInt8):=
 if name.length≤100 then some ([],name)else(LD name).map fun i=>(name.take i,name.drop (i+1))
theorem Qp (hk:kO name k) (ay:∀j,j<k→¬kO name j):LD name=some k:=by
 have B:k<name.length:=by unfold kO at hk;omega
 unfold LD;rw[List.find?_eq_some_iff_getElem];refine⟨by simpa using hk,k,by simpa using B,by simp,fun j A=>by simpa using ay j A⟩
theorem Qo (h:∀j,j<name.length→¬kO name j):LD name=none:=by
 unfold LD;rw[List.find?_eq_none];intro j A
 simpa using h j (List.mem_range.1 A)
theorem xb (h:name.length≤100):o7 name=some ([],name):=if_pos h
theorem XP (h:¬name.length≤100) (hk:kO name k) (ay:∀j,j<k→¬kO name j):o7 name=some (name.take k,name.drop (k+1)):=by
 rw[o7,if_neg h,Qp hk ay];rfl
theorem Qq (h:¬name.length≤100) (hn:∀j,j<name.length→¬kO name j):o7 name=none:=by
 rw[o7,if_neg h,Qo hn];rfl
theorem yY (h:o7 name=some (p,s)):s.length≤100∧p.length≤155∧((p=[]∧s=name)∨(p≠[]∧name=p++47::s)):=by
 unfold o7 at h;split at h
 ·cases h
  exact⟨‹_›,by simp,Or.inl ⟨rfl,rfl⟩⟩
 ·cases hc:LD name with
  |none=>rw[hc]at h;cases h
  |some k=>
   rw[hc]at h;simp only[Option.map_some,Option.some.injEq,Prod.mk.injEq]at h;obtain⟨rfl,rfl⟩:=h
   have hm:kO name k:=by
    unfold LD at hc
    simpa using List.find?_some hc
   obtain⟨h1,D,E,G,H⟩:=hm;refine⟨by rw[Qe];omega,by rw[Qg];omega,Or.inr ⟨fun e=>?_,?_⟩⟩
   ·have:=congrArg List.length e
    rw[Qg,List.length_nil]at this;omega
   ·have hk:k<name.length:=by omega
    have A:name=name.take k++name.drop k:=(List.take_append_drop k name).symm;rw[List.drop_eq_getElem_cons hk]at A;have B:name[k]=47:=by simpa [List.getD,hk]using h1
    rw[B]at A;exact A
def qc (n:Nat) (s:List UInt8):List UInt8:=s++List.replicate (n - s.length) 0
theorem tK (h:s.length≤n):(qc n s).length=n:=by
 simp only[qc,Qf,List.length_replicate];omega
theorem Hj (n:Nat) (s:List UInt8):nN (List.replicate n 0) s=qc n s:=by
 simp[nN,qc,List.drop_replicate]
def MT (h:af) (i:Nat):List UInt8:=bytesOf ((nJ (sc h i) (aq i)).getD [])
def nC (h:af):Bool:=(List.range 5).all fun i=>(nJ (sc h (i+1)) (aq (i+1))).isSome
theorem jV:nC h=true↔∀i,1≤i→i≤5→(nJ (sc h i) (aq i)).isSome=true:=by
 unfold nC;rw[List.all_eq_true];constructor
 ·intro g i h1 A
  have:=g (i - 1) (List.mem_range.2 (by omega))
  rwa [show i - 1+1=i by omega]at this
 ·intro g i hi
  have:=List.mem_range.1 hi;exact g (i+1) (by omega) (by omega)
theorem zu {l:List Int} (hp:nJ (sc h i) (aq i)=some l):MT h i=bytesOf l:=by rw[MT,hp];rfl
theorem pQ (hp:(nJ (sc h i) (aq i)).isSome=true):(MT h i).length=aq i:=by
 obtain⟨l,hl⟩:=Option.isSome_iff_exists.1 hp;rw[zu hl,bytesOf_length];have:=(Az hl).1;omega
def ug (h:af):Bool:=h.j7||h.kind==0||decide (100<h.link.length)||h.name.contains 0||h.link.contains 0
def po (h:af) (p s:List UInt8) (i:Nat):List UInt8:=
 if i=0 then qc 100 s else if i=6 then List.replicate 8 0 else if i=7 then[h.kind]else if i=8 then qc 100 h.link else if i=9 then kf else if i=10 then qc 155 p else if i≤5 then MT h i else[]
def En (n:Nat):List UInt8:=bytesOf (lf 8 48 6 n++[0])++[32]
theorem vn (n:Nat):(En n).length=8:=by simp[En,bytesOf_length,jP]
def Bd (h:af) (p s:List UInt8):Nat→List UInt8:=KO (po h p s) 6 (En (jg (iY (po h p s)) 512))
def nK (h:af):Option (List UInt8):=
 match o7 h.name with
 |none=>none
 |some ps=>if ug h||!nC h then none else some (iY (Bd h ps.1 ps.2))
theorem Fo (hs:s.length≤100) (hp:p.length≤155) (hl:h.link.length≤100) (hn:nC h=true):Fits (po h p s):=fun i=>by
 unfold po
 by_cases hi:i<11
 ·rcases th hi with rfl|rfl|rfl|rfl|rfl|rfl|rfl|rfl|rfl|rfl|rfl
  ·simpa [aq]using tK hs
  ·simpa using pQ (jV.1 hn 1 (by omega) (by omega))
  ·simpa using pQ (jV.1 hn 2 (by omega) (by omega))
  ·simpa using pQ (jV.1 hn 3 (by omega) (by omega))
  ·simpa using pQ (jV.1 hn 4 (by omega) (by omega))
  ·simpa using pQ (jV.1 hn 5 (by omega) (by omega))
  ·simp[aq]
  ·simp[aq]
  ·simpa [aq]using tK hl
  ·simp[aq,kf]
  ·simpa [aq]using tK hp
 ·rw[zM hi,if_neg (by omega),if_neg (by omega),if_neg (by omega),if_neg (by omega),if_neg (by omega),if_neg (by omega),if_neg (by omega)]
  rfl
theorem RD (hs:s.length≤100) (hp:p.length≤155) (hl:h.link.length≤100) (hn:nC h=true):Fits (Bd h p s):=
 (Fo hs hp hl hn).KO (by rw[vn];rfl)
theorem VU (h:n<262144):ko 8 6 n=0:=by
 simp only[ko];omega
theorem J5 (h:n<262144):nJ n 7=some (lf 8 48 6 n++[0]):=zz (by omega) (by omega) (by omega) (by omega) (VU h)
theorem MY (h:n<262144):aY (En n)=some (n:Int):=by
 have:=yy n 6 (by omega) (by omega) (by omega) (VU h) [] [0,32] (by simp) (by simp);rw[List.nil_append]at this;rw[En,qQ,List.append_assoc];exact this
theorem ED (hb:ug h=false):h.j7=false∧h.kind≠0∧h.link.length≤100∧(∀x∈h.name,x≠0)∧(∀x∈h.link,x≠0):=by
 simp only[ug,Bool.or_eq_false_iff,beq_eq_false_iff_ne,decide_eq_false_iff_not,List.contains_eq_mem,ne_eq]at hb;obtain⟨⟨⟨⟨h1,B⟩,G⟩,D⟩,E⟩:=hb;exact⟨h1,B,by omega,fun x A e=>D (e▸A),fun x A e=>E (e▸A)⟩
theorem Up (hc:o7 h.name=some (p,s)) (hb:ug h=false) (hn:nC h=true) (hl:bs.length=512)
 (hf:∀i,i<11→i≠6→aj bs i=po h p s i) (h6:aj bs 6=En (jg bs 512)):aR bs=(h,0):=by
 obtain⟨T,hk,V,H,U⟩:=ED hb;obtain⟨hs,W,E⟩:=yY hc;have X:=vq bs 512
 have I:∀i,1≤i→i≤5→aY (aj bs i)=some (sc h i):=fun i h1 A=>by
  obtain⟨l,hl⟩:=Option.isSome_iff_exists.1 (jV.1 hn i h1 A);rw[hf i (by omega) (by omega),po,if_neg (by omega),if_neg (by omega),if_neg (by omega),if_neg (by omega),if_neg (by omega),if_neg (by omega),if_pos A,zu hl];exact JX hl
 have G:aj bs 9=kf:=by rw[hf 9 (by omega) (by omega)];simp[po]
 rw[yf hl (by rw[h6];exact MY (by omega)) (Or.inl G) (pR.2 fun i h1 A=>by rw[I i h1 A];rfl)]
 have L:av (aj bs 0)=s:=by
  rw[hf 0 (by omega) (by omega)];refine rA (fun x D=>H x ?_) _;rcases E with⟨_,rfl⟩|⟨_,e⟩
  ·exact D
  ·rw[e];simp[D]
 have J:av (aj bs 10)=p:=by
  rw[hf 10 (by omega) (by omega)];refine rA (fun x D=>H x ?_) _;rcases E with⟨rfl,_⟩|⟨_,e⟩
  ·simp at D
  ·rw[e];simp[D]
 have N:av (aj bs 8)=h.link:=by
  rw[hf 8 (by omega) (by omega)];exact rA U _
 have M:CA bs=h.kind:=by
  have:aj bs 7=[h.kind]:=by rw[hf 7 (by omega) (by omega)];simp[po]
  rw[CA,this];exact if_neg hk
 have O:x9 bs=false:=by rw[x9,G];decide
 have B:∀i,1≤i→i≤5→iW bs i=sc h i:=fun i h1 A=>by rw[iW,I i h1 A];rfl
 have R:o4 p s false=h.name:=by
  unfold o4;rcases E with⟨rfl,rfl⟩|⟨ck,e⟩
  ·rw[if_pos (Or.inr rfl)]
  ·rw[if_neg (by simp[ck]),e]
 rw[oS,L,J,N,M,O,B 1 (by omega) (by omega),B 2 (by omega) (by omega),B 3 (by omega) (by omega),B 4 (by omega) (by omega),B 5 (by omega) (by omega),R]
 cases h
 simp only[sc]at*;rw[T]
theorem RP (hp:nK h=some bs):∃p s,o7 h.name=some (p,s)∧ug h=false∧nC h=true∧bs=iY (Bd h p s):=by
 unfold nK at hp
 cases hc:o7 h.name with
 |none=>rw[hc]at hp;cases hp
 |some ps=>
  rw[hc]at hp;simp only at hp;split at hp
  ·cases hp
  ·rename_i A
   simp only[Bool.or_eq_true,Bool.not_eq_true',not_or,Bool.not_eq_true,Bool.not_eq_false]at A;exact⟨ps.1,ps.2,rfl,A.1,A.2,(Option.some.inj hp).symm⟩
theorem MW (hc:o7 h.name=some (p,s)) (hb:ug h=false) (hn:nC h=true):
 (∀i,i<11→i≠6→aj (iY (Bd h p s)) i=po h p s i)∧aj (iY (Bd h p s)) 6=En (jg (iY (Bd h p s)) 512):=by
 obtain⟨H,hk,D,I,J⟩:=ED hb;obtain⟨hs,G,L⟩:=yY hc;have B:=RD hs G D hn;refine⟨fun i hi E=>by rw[tn B hi,Bd,qL _ _ E],?_⟩;rw[tn B (by omega),Bd,vu];refine congrArg En (AL fun x A hn=>?_);rw[o6 _ A,o6 _ A,qL _ _ (fun e=>hn ((Bq (by omega)).1 e))]
theorem QR (hp:nK h=some bs):aR bs=(h,0):=by
 obtain⟨p,s,hc,A,B,rfl⟩:=RP hp;have:=MW hc A B;exact Up hc A B (iE _) this.1 this.2
end Hp
end Go.Proofs.YtdhibldkldlfpaaGreatDoor
