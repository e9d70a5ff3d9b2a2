/- Merged. -/
import Derived.Test.YtdhibldkldlfpaaGreatDoorEmitOnceX2
import Derived.Test.YtdhibldkldlfpaaGreatDoorEmitOnceX11
import Derived.Laws.CopyOwn
namespace Go.Proofs.YtdhibldkldlfpaaGreatDoor
set_option linter.unusedVariables false
namespace Hp
open Go.Lib Fp
variable {l p s bs cs name:List UInt8} {i k n x:Nat} {own:Nat→List UInt8} {h:ak}
def eZ:Nat→Nat
 |0=>0|1=>100|2=>108|3=>116|4=>124|5=>136|6=>148|7=>156|8=>157|9=>257|10=>345|_=>512
def aj:Nat→Nat
 |0=>100|1=>8|2=>8|3=>8|4=>12|5=>12|6=>8|7=>1|8=>100|9=>8|10=>155|_=>0
def wH (x:Nat):Nat:=
 if x<100 then 0 else if x<108 then 1 else if x<116 then 2 else if x<124 then 3 else if x<136 then 4 else if x<148 then 5 else if x<156 then 6 else if x<157 then 7 else if x<257 then 8 else if x<265 then 9 else if x<345 then 11 else if x<500 then 10 else 11
theorem ke (hi:i<11):i=0∨i=1∨i=2∨i=3∨i=4∨i=5∨i=6∨i=7∨i=8∨i=9∨i=10:=by omega
theorem Oq (x:Nat):∃v lo hi,wH x=v∧lo≤x∧x<hi∧((v=11∧lo=500)∨(v=11∧lo=265∧hi=345)∨(v<11∧eZ v=lo∧eZ v+aj v=hi)):=by
 by_cases A:x<100
 ·refine⟨0,0,100,?_,by omega,A,?_⟩
  ·unfold wH
   rw[if_pos A]
  ·exact Or.inr (Or.inr ⟨by decide,rfl,rfl⟩)
 by_cases h1:x<108
 ·refine⟨1,100,108,?_,by omega,h1,?_⟩
  ·unfold wH
   rw[if_neg A,if_pos h1]
  ·exact Or.inr (Or.inr ⟨by decide,rfl,rfl⟩)
 by_cases B:x<116
 ·refine⟨2,108,116,?_,by omega,B,?_⟩
  ·unfold wH
   rw[if_neg A,if_neg h1,if_pos B]
  ·exact Or.inr (Or.inr ⟨by decide,rfl,rfl⟩)
 by_cases D:x<124
 ·refine⟨3,116,124,?_,by omega,D,?_⟩
  ·unfold wH
   rw[if_neg A,if_neg h1,if_neg B,if_pos D]
  ·exact Or.inr (Or.inr ⟨by decide,rfl,rfl⟩)
 by_cases E:x<136
 ·refine⟨4,124,136,?_,by omega,E,?_⟩
  ·unfold wH
   rw[if_neg A,if_neg h1,if_neg B,if_neg D,if_pos E]
  ·exact Or.inr (Or.inr ⟨by decide,rfl,rfl⟩)
 by_cases G:x<148
 ·refine⟨5,136,148,?_,by omega,G,?_⟩
  ·unfold wH
   rw[if_neg A,if_neg h1,if_neg B,if_neg D,if_neg E,if_pos G]
  ·exact Or.inr (Or.inr ⟨by decide,rfl,rfl⟩)
 by_cases H:x<156
 ·refine⟨6,148,156,?_,by omega,H,?_⟩
  ·unfold wH
   rw[if_neg A,if_neg h1,if_neg B,if_neg D,if_neg E,if_neg G,if_pos H]
  ·exact Or.inr (Or.inr ⟨by decide,rfl,rfl⟩)
 by_cases I:x<157
 ·refine⟨7,156,157,?_,by omega,I,?_⟩
  ·unfold wH
   rw[if_neg A,if_neg h1,if_neg B,if_neg D,if_neg E,if_neg G,if_neg H,if_pos I]
  ·exact Or.inr (Or.inr ⟨by decide,rfl,rfl⟩)
 by_cases J:x<257
 ·refine⟨8,157,257,?_,by omega,J,?_⟩
  ·unfold wH
   rw[if_neg A,if_neg h1,if_neg B,if_neg D,if_neg E,if_neg G,if_neg H,if_neg I,if_pos J]
  ·exact Or.inr (Or.inr ⟨by decide,rfl,rfl⟩)
 by_cases L:x<265
 ·refine⟨9,257,265,?_,by omega,L,?_⟩
  ·unfold wH
   rw[if_neg A,if_neg h1,if_neg B,if_neg D,if_neg E,if_neg G,if_neg H,if_neg I,if_neg J,if_pos L]
  ·exact Or.inr (Or.inr ⟨by decide,rfl,rfl⟩)
 by_cases M:x<345
 ·refine⟨11,265,345,?_,by omega,M,?_⟩
  ·unfold wH
   rw[if_neg A,if_neg h1,if_neg B,if_neg D,if_neg E,if_neg G,if_neg H,if_neg I,if_neg J,if_neg L,if_pos M]
  ·exact Or.inr (Or.inl ⟨rfl,rfl,rfl⟩)
 by_cases N:x<500
 ·refine⟨10,345,500,?_,by omega,N,?_⟩
  ·unfold wH
   rw[if_neg A,if_neg h1,if_neg B,if_neg D,if_neg E,if_neg G,if_neg H,if_neg I,if_neg J,if_neg L,if_neg M,if_pos N]
  ·exact Or.inr (Or.inr ⟨by decide,rfl,rfl⟩)
 refine⟨11,500,x+1,?_,by omega,by omega,Or.inl ⟨rfl,rfl⟩⟩;unfold wH;rw[if_neg A,if_neg h1,if_neg B,if_neg D,if_neg E,if_neg G,if_neg H,if_neg I,if_neg J,if_neg L,if_neg M,if_neg N]
theorem Is {j:Nat} (hi:i<11) (hj:j<11) (cE:i≠j):eZ i+aj i≤eZ j∨eZ j+aj j≤eZ i:=by
 have h:∀i,i<11→∀j,j<11→i≠j→eZ i+aj i≤eZ j∨eZ j+aj j≤eZ i:=by decide
 exact h i hi j hj cE
theorem Lt (hi:i<11):eZ i+aj i≤265∨345≤eZ i∧eZ i+aj i≤500:=by
 have h:∀i,i<11→(eZ i+aj i≤265∨345≤eZ i∧eZ i+aj i≤500):=by decide
 exact h i hi
theorem qX (hi:i<11):wH x=i↔eZ i≤x∧x<eZ i+aj i:=by
 obtain⟨v,lo,E,e,h1,D,A⟩:=Oq x;have hf:=Lt hi;rw[e];rcases A with⟨rfl,rfl⟩|⟨rfl,rfl,rfl⟩|⟨A,rfl,rfl⟩
 ·omega
 ·omega
 ·constructor
  ·rintro rfl;exact⟨h1,D⟩
  ·intro h
   rcases Nat.decEq v i with B|rfl
   ·have:=Is A hi B
    omega
   ·rfl
theorem kZ (hi:i<11):eZ i+aj i≤512:=by
 rcases ke hi with rfl|rfl|rfl|rfl|rfl|rfl|rfl|rfl|rfl|rfl|rfl<;>simp[eZ,aj]
theorem j4 (hi:i<11):1≤aj i∧aj i≤155:=by
 rcases ke hi with rfl|rfl|rfl|rfl|rfl|rfl|rfl|rfl|rfl|rfl|rfl<;>simp[aj]
theorem pD (hi:¬i<11):aj i=0:=by
 match i,hi with
 |0,hi|1,hi|2,hi|3,hi|4,hi|5,hi|6,hi|7,hi|8,hi|9,hi|10,hi=>exact absurd (by decide) hi
 |i+11,_=>rfl
theorem rQ {m:List UInt8} (h:l.length=m.length) (hx:∀x,x<l.length→l.getD x 0=m.getD x 0):l=m:=by
 apply List.ext_getElem h;intro x h1 A;have:=hx x h1;rw[List.getD,List.getD,Qd h1,Qd A]at this
 simpa using this
def Fits (own:Nat→List UInt8):Prop:=∀i,(own i).length=aj i
def ca (own:Nat→List UInt8):List UInt8:=(List.range 512).map fun x=>(own (wH x)).getD (x - eZ (wH x)) 0
theorem bD (own:Nat→List UInt8):(ca own).length=512:=by simp[ca]
theorem fG (own:Nat→List UInt8) (h:x<512):(ca own).getD x 0=(own (wH x)).getD (x - eZ (wH x)) 0:=by
 simp[ca,List.getD,h]
def au (bs:List UInt8) (i:Nat):List UInt8:=(bs.drop (eZ i)).take (aj i)
theorem jz (hl:bs.length=512) (hi:i<11):(au bs i).length=aj i:=by
 have:=kZ hi;simp only[au,Qg,Qe];omega
theorem rM (bs:List UInt8) (i j:Nat) (hj:j<aj i):(au bs i).getD j 0=bs.getD (eZ i+j) 0:=by
 simp[au,List.getD,hj]
theorem kg (hf:Fits own) (hi:i<11):au (ca own) i=own i:=by
 have hl:=jz (bD own) hi;refine rQ (by rw[hl,hf i]) fun x A=>?_
 rw[hl]at A;have h1:=kZ hi;rw[rM _ _ _ A,fG own (by omega),(qX hi).2 ⟨by omega,by omega⟩]
 congr 1
 omega
def Aa (own:Nat→List UInt8) (i:Nat) (l:List UInt8):Nat→List UInt8:=fun k=>if k=i then l else own k
theorem lT (own:Nat→List UInt8) (i:Nat) (l:List UInt8):Aa own i l i=l:=if_pos rfl
theorem iy (own:Nat→List UInt8) (l:List UInt8) (h:k≠i):Aa own i l k=own k:=if_neg h
theorem Fits.Aa (h:Fits own) (hl:l.length=aj i):Fits (Aa own i l):=fun k=>by
 by_cases hk:k=i
 ·subst hk;rw[lT];exact hl
 ·rw[iy _ _ hk];exact h k
def eH (old cs:List UInt8):List UInt8:=cs++old.drop cs.length
theorem sW {old:List UInt8} (h:cs.length≤old.length):(eH old cs).length=old.length:=by
 simp only[eH,Qf,Qe];omega
theorem tq (L cs:List UInt8) (off x:Nat) (h:off+cs.length≤L.length):(splice L off cs).getD x 0=if off≤x∧x<off+cs.length then cs.getD (x - off) 0 else L.getD x 0:=by
 unfold splice;have hm:min off L.length=off:=by omega
 simp only[List.getD,List.getElem?_append,Qg,hm]
 by_cases h1:x<off
 ·rw[if_pos h1,if_neg (by omega),List.getElem?_take,if_pos h1]
 ·rw[if_neg h1]
  by_cases A:x - off<cs.length
  ·rw[if_pos A,if_pos (by omega)]
  ·rw[if_neg A,if_neg (by omega),List.getElem?_drop]
   congr 2
   omega
theorem lQ (L cs:List UInt8):splice L 0 cs=eH L cs:=by simp[splice,eH]
theorem zq (old cs:List UInt8) (x:Nat) (h:cs.length≤old.length):(eH old cs).getD x 0=if x<cs.length then cs.getD x 0 else old.getD x 0:=by
 rw[←lQ,tq _ _ _ _ (by omega)];simp
theorem uh (hf:Fits own) (hi:i<11) (hl:cs.length≤aj i):splice (ca own) (eZ i) cs=ca (Aa own i (eH (own i) cs)):=by
 have h1:=kZ hi;have D:(splice (ca own) (eZ i) cs).length=512:=by rw[length_splice _ _ _ (by rw[bD];omega),bD]
 refine rQ (by rw[D,bD]) fun x A=>?_
 rw[D]at A;rw[tq _ _ _ _ (by rw[bD];omega),fG _ A,fG _ A]
 by_cases E:eZ i≤x∧x<eZ i+aj i
 ·rw[(qX hi).2 E,lT,zq _ _ _ (by rw[hf i];exact hl)]
  by_cases B:x - eZ i<cs.length
  ·rw[if_pos (by omega),if_pos B]
  ·rw[if_neg (by omega),if_neg B]
 ·rw[if_neg (by omega),iy _ _ (fun e=>E ((qX hi).1 e))]
def eW:Nat→List UInt8:=fun i=>List.replicate (aj i) 0
theorem kG:Fits eW:=fun i=>List.length_replicate
theorem yf:ca eW=List.replicate 512 0:=by
 refine rQ (by rw[bD,List.length_replicate]) fun x A=>?_
 rw[bD]at A;rw[fG _ A];simp only[eW,List.getD,List.getElem?_replicate,if_pos A];split<;>rfl
def cH (bs:List UInt8):Nat→List UInt8:=fun i=>if i<11 then au bs i else[]
theorem Cp (hl:bs.length=512):Fits (cH bs):=fun i=>by
 unfold cH;split
 ·exact jz hl ‹_›
 ·rw[pD ‹_›];rfl
theorem yw {a b:Nat→List UInt8} (ha:Fits a) (hb:Fits b) (h:∀i,i<11→a i=b i):a=b:=by
 funext i
 by_cases hi:i<11
 ·exact h i hi
 ·have h1:=ha i
  have A:=hb i;rw[pD hi]at h1 A;rw[List.eq_nil_of_length_eq_zero h1,List.eq_nil_of_length_eq_zero A]
def aZ (bs:List UInt8):Nat→Nat
 |0=>0
 |k+1=>aZ bs k+(bs.getD k 0).toNat
def dj (bs:List UInt8):Nat→Nat
 |0=>0
 |k+1=>dj bs k+(if 148≤k∧k<156 then 32 else(bs.getD k 0).toNat)
theorem iV (bs:List UInt8):∀k,aZ bs k≤255*k
 |0=>Qk _
 |k+1=>by have:=iV bs k;have:=(bs.getD k 0).toNat_lt;rw[aZ];omega
theorem oJ (bs:List UInt8):∀k,dj bs k≤255*k
 |0=>Qk _
 |k+1=>by have:=oJ bs k;have:=(bs.getD k 0).toNat_lt;rw[dj];split<;>omega
theorem oC {bs:List UInt8}:∀{k:Nat},aZ bs k=0↔∀x,x<k→bs.getD x 0=0
 |0=>⟨fun _ x A=>by omega,fun _=>rfl⟩
 |k+1=>by
  rw[aZ,Nat.add_eq_zero_iff,oC (k:=k)];constructor
  ·rintro⟨h1,h2⟩ x A
   by_cases hk:x=k
   ·subst hk;exact UInt8.toNat_inj.1 h2
   ·exact h1 x (by omega)
  ·intro h
   exact⟨fun x A=>h x (by omega),by rw[h k (by omega)];rfl⟩
theorem qt {a b:List UInt8}:∀{k:Nat},(∀x,x<k→¬(148≤x∧x<156)→a.getD x 0=b.getD x 0)→dj a k=dj b k
 |0,_=>rfl
 |k+1,h=>by
  rw[dj,dj,qt (k:=k) fun x B A=>h x (by omega) A];split
  ·rfl
  ·rw[h k (by omega) ‹_›]
theorem vH:dj bs 512+aZ (au bs 6) 8=aZ bs 512+256:=by
 have a:∀k,k≤148→dj bs k=aZ bs k:=by
  intro k
  induction k with
  |zero=>intro _;rfl
  |succ k ih=>intro hk;rw[dj,aZ,ih (by omega),if_neg (by omega)]
 have b:∀j,j≤8→dj bs (148+j)+aZ (au bs 6) j=aZ bs (148+j)+32*j:=by
  intro j
  induction j with
  |zero=>intro _;rw[Nat.add_zero,a 148 (by omega)];rfl
  |succ j ih=>
   intro A;have:=ih (by omega);rw[show 148+(j+1)=(148+j)+1 by omega,dj,aZ,aZ,rM bs 6 j (by simp[aj];omega),if_pos (by omega),show eZ 6+j=148+j from rfl];omega
 have c:∀j,dj bs (156+j)+aZ (au bs 6) 8=aZ bs (156+j)+256:=by
  intro j
  induction j with
  |zero=>exact b 8 (by omega)
  |succ j ih=>rw[show 156+(j+1)=(156+j)+1 by omega,dj,aZ.eq_2 bs (156+j),if_neg (by omega)];omega
 exact c 356
attribute [irreducible] dj aZ ca
def aC (l:List UInt8):List UInt8:=l.takeWhile (· != 0)
theorem nt (h:∀x∈s,x≠0) (n:Nat):aC (s++List.replicate n 0)=s:=by
 unfold aC
 induction s with
 |nil=>
  cases n with
  |zero=>rfl
  |succ n=>rw[List.nil_append,List.replicate_succ,List.takeWhile_cons,if_neg (by decide)]
 |cons c t ih=>
  rw[List.cons_append,List.takeWhile_cons,if_pos (by simpa using h c (List.mem_cons_self ..)),ih fun x A=>h x (List.mem_cons_of_mem _ A)]
def dO:List UInt8:=[117,115,116,97,114,0,48,48]
def qz:List UInt8:=[117,115,116,97,114,32,32,0]
def jX (p s:List UInt8) (eG:Bool):List UInt8:=if eG=true∨p=[]then s else p++47::s
def jk (bs:List UInt8):Bool:=(List.range 5).all fun i=>J0 (aX (au bs (i+1)))
def dn (bs:List UInt8) (i:Nat):Int:=oK (aX (au bs i))
def Jw (bs:List UInt8):UInt8:=if(au bs 7).getD 0 0=0 then 48 else(au bs 7).getD 0 0
def pU (bs:List UInt8):Bool:=au bs 9==qz
def ij (bs:List UInt8):ak:=
 ⟨jX (aC (au bs 10)) (aC (au bs 0)) (pU bs),aC (au bs 8),Jw bs,dn bs 1,dn bs 2,dn bs 3,dn bs 5,dn bs 4,pU bs⟩
def aU (bs:List UInt8):ak × Int:=
 if bs.length≠512 then(br,1)
 else if aX (au bs 6)≠some (dj bs 512:Int)then(br,3)
 else if au bs 9≠dO∧au bs 9≠qz then(br,9)
 else if jk bs=true then(ij bs,0)else(br,4)
theorem FF (h:bs.length≠512):aU bs=(br,1):=if_pos h
theorem uP (h:bs.length=512) (h1:aX (au bs 6)≠some (dj bs 512:Int)):aU bs=(br,3):=by
 rw[aU,if_neg (by simp[h]),if_pos h1]
theorem Bp (h:bs.length=512) (h1:aX (au bs 6)=some (dj bs 512:Int)) (h2:au bs 9≠dO∧au bs 9≠qz):aU bs=(br,9):=by
 rw[aU,if_neg (by simp[h]),if_neg (by simp[h1]),if_pos h2]
theorem uO (h:bs.length=512) (h1:aX (au bs 6)=some (dj bs 512:Int)) (h2:au bs 9=dO∨au bs 9=qz) (h3:jk bs=false):aU bs=(br,4):=by
 rw[aU,if_neg (by simp[h]),if_neg (by simp[h1]),if_neg (by rcases h2 with h2|h2<;>simp[h2]),if_neg (by simp[h3])]
theorem rY (h:bs.length=512) (h1:aX (au bs 6)=some (dj bs 512:Int)) (h2:au bs 9=dO∨au bs 9=qz) (h3:jk bs=true):aU bs=(ij bs,0):=by
 rw[aU,if_neg (by simp[h]),if_neg (by simp[h1]),if_neg (by rcases h2 with h2|h2<;>simp[h2]),if_pos h3]
theorem lG:jk bs=true↔∀i,1≤i→i≤5→J0 (aX (au bs i))=true:=by
 unfold jk;rw[List.all_eq_true];constructor
 ·intro h i h1 A
  have:=h (i - 1) (List.mem_range.2 (by omega))
  rwa [show i - 1+1=i by omega]at this
 ·intro h i hi
  have:=List.mem_range.1 hi;exact h (i+1) (by omega) (by omega)
def dM (name:List UInt8) (i:Nat):Prop:=name.getD i 0=47∧1≤i∧i≤155∧i+2≤name.length∧name.length≤i+101
instance (name:List UInt8) (i:Nat):Decidable (dM name i):=by unfold dM;exact inferInstance
def AX (name:List UInt8):Option Nat:=(List.range name.length).find? fun i=>decide (dM name i)
def fH (name:List UInt8):Option (List UInt8 × List UInt8):=
 if name.length≤100 then some ([],name)else(AX name).map fun i=>(name.take i,name.drop (i+1))
theorem Fa (hk:dM name k) (ay:∀j,j<k→¬dM name j):AX name=some k:=by
 have B:k<name.length:=by unfold dM at hk;omega
 unfold AX;rw[List.find?_eq_some_iff_getElem];refine⟨by simpa using hk,k,by simpa using B,by simp,fun j A=>by simpa using ay j A⟩
theorem E9 (h:∀j,j<name.length→¬dM name j):AX name=none:=by
 unfold AX;rw[List.find?_eq_none];intro j A
 simpa using h j (List.mem_range.1 A)
theorem mZ (h:name.length≤100):fH name=some ([],name):=if_pos h
theorem LA (h:¬name.length≤100) (hk:dM name k) (ay:∀j,j<k→¬dM name j):fH name=some (name.take k,name.drop (k+1)):=by
 rw[fH,if_neg h,Fa hk ay];rfl
theorem Fb (h:¬name.length≤100) (hn:∀j,j<name.length→¬dM name j):fH name=none:=by
 rw[fH,if_neg h,E9 hn];rfl
theorem oY (h:fH name=some (p,s)):s.length≤100∧p.length≤155∧((p=[]∧s=name)∨(p≠[]∧name=p++47::s)):=by
 unfold fH at h;split at h
 ·cases h
  exact⟨‹_›,by simp,Or.inl ⟨rfl,rfl⟩⟩
 ·cases hc:AX name with
  |none=>rw[hc]at h;cases h
  |some k=>
   rw[hc]at h;simp only[Option.map_some,Option.some.injEq,Prod.mk.injEq]at h;obtain⟨rfl,rfl⟩:=h
   have hm:dM name k:=by
    unfold AX at hc
    simpa using List.find?_some hc
   obtain⟨h1,D,E,G,H⟩:=hm;refine⟨by rw[Qe];omega,by rw[Qg];omega,Or.inr ⟨fun e=>?_,?_⟩⟩
   ·have:=congrArg List.length e
    rw[Qg,List.length_nil]at this;omega
   ·have hk:k<name.length:=by omega
    have A:name=name.take k++name.drop k:=(List.take_append_drop k name).symm;rw[List.drop_eq_getElem_cons hk]at A;have B:name[k]=47:=by simpa [List.getD,hk]using h1
    rw[B]at A;exact A
def gU (n:Nat) (s:List UInt8):List UInt8:=s++List.replicate (n - s.length) 0
theorem ku (h:s.length≤n):(gU n s).length=n:=by
 simp only[gU,Qf,List.length_replicate];omega
theorem xp (n:Nat) (s:List UInt8):eH (List.replicate n 0) s=gU n s:=by
 simp[eH,gU,List.drop_replicate]
def Cb (h:ak) (i:Nat):List UInt8:=bytesOf ((eD (jB h i) (aj i)).getD [])
def eA (h:ak):Bool:=(List.range 5).all fun i=>(eD (jB h (i+1)) (aj (i+1))).isSome
theorem cP:eA h=true↔∀i,1≤i→i≤5→(eD (jB h i) (aj i)).isSome=true:=by
 unfold eA;rw[List.all_eq_true];constructor
 ·intro g i h1 A
  have:=g (i - 1) (List.mem_range.2 (by omega))
  rwa [show i - 1+1=i by omega]at this
 ·intro g i hi
  have:=List.mem_range.1 hi;exact g (i+1) (by omega) (by omega)
theorem pn {l:List Int} (hp:eD (jB h i) (aj i)=some l):Cb h i=bytesOf l:=by rw[Cb,hp];rfl
theorem gD (hp:(eD (jB h i) (aj i)).isSome=true):(Cb h i).length=aj i:=by
 obtain⟨l,hl⟩:=Option.isSome_iff_exists.1 hp;rw[pn hl,bytesOf_length];have:=(ql hl).1;omega
def kK (h:ak):Bool:=h.eG||h.kind==0||decide (100<h.link.length)||h.name.contains 0||h.link.contains 0
def fS (h:ak) (p s:List UInt8) (i:Nat):List UInt8:=
 if i=0 then gU 100 s else if i=6 then List.replicate 8 0 else if i=7 then[h.kind]else if i=8 then gU 100 h.link else if i=9 then dO else if i=10 then gU 155 p else if i≤5 then Cb h i else[]
def uk (n:Nat):List UInt8:=bytesOf (ea 8 48 6 n++[0])++[32]
theorem lS (n:Nat):(uk n).length=8:=by simp[uk,bytesOf_length,cL]
def qM (h:ak) (p s:List UInt8):Nat→List UInt8:=Aa (fS h p s) 6 (uk (dj (ca (fS h p s)) 512))
def eE (h:ak):Option (List UInt8):=
 match fH h.name with
 |none=>none
 |some ps=>if kK h||!eA h then none else some (ca (qM h ps.1 ps.2))
theorem vk (hs:s.length≤100) (hp:p.length≤155) (hl:h.link.length≤100) (hn:eA h=true):Fits (fS h p s):=fun i=>by
 unfold fS
 by_cases hi:i<11
 ·rcases ke hi with rfl|rfl|rfl|rfl|rfl|rfl|rfl|rfl|rfl|rfl|rfl
  ·simpa [aj]using ku hs
  ·simpa using gD (cP.1 hn 1 (by omega) (by omega))
  ·simpa using gD (cP.1 hn 2 (by omega) (by omega))
  ·simpa using gD (cP.1 hn 3 (by omega) (by omega))
  ·simpa using gD (cP.1 hn 4 (by omega) (by omega))
  ·simpa using gD (cP.1 hn 5 (by omega) (by omega))
  ·simp[aj]
  ·simp[aj]
  ·simpa [aj]using ku hl
  ·simp[aj,dO]
  ·simpa [aj]using ku hp
 ·rw[pD hi,if_neg (by omega),if_neg (by omega),if_neg (by omega),if_neg (by omega),if_neg (by omega),if_neg (by omega),if_neg (by omega)]
  rfl
theorem Gi (hs:s.length≤100) (hp:p.length≤155) (hl:h.link.length≤100) (hn:eA h=true):Fits (qM h p s):=
 (vk hs hp hl hn).Aa (by rw[lS];rfl)
theorem Kf (h:n<262144):dv 8 6 n=0:=by
 simp only[dv];omega
theorem zp (h:n<262144):eD n 7=some (ea 8 48 6 n++[0]):=pq (by omega) (by omega) (by omega) (by omega) (Kf h)
theorem Cg (h:n<262144):aX (uk n)=some (n:Int):=by
 have:=oA n 6 (by omega) (by omega) (by omega) (Kf h) [] [0,32] (by simp) (by simp);rw[List.nil_append]at this;rw[uk,iz,List.append_assoc];exact this
theorem uz (hb:kK h=false):h.eG=false∧h.kind≠0∧h.link.length≤100∧(∀x∈h.name,x≠0)∧(∀x∈h.link,x≠0):=by
 simp only[kK,Bool.or_eq_false_iff,beq_eq_false_iff_ne,decide_eq_false_iff_not,List.contains_eq_mem,ne_eq]at hb;obtain⟨⟨⟨⟨h1,B⟩,G⟩,D⟩,E⟩:=hb;exact⟨h1,B,by omega,fun x A e=>D (e▸A),fun x A e=>E (e▸A)⟩
theorem I4 (hc:fH h.name=some (p,s)) (hb:kK h=false) (hn:eA h=true) (hl:bs.length=512)
 (hf:∀i,i<11→i≠6→au bs i=fS h p s i) (h6:au bs 6=uk (dj bs 512)):aU bs=(h,0):=by
 obtain⟨U,hk,V,H,O⟩:=uz hb;obtain⟨hs,W,E⟩:=oY hc;have X:=oJ bs 512
 have I:∀i,1≤i→i≤5→aX (au bs i)=some (jB h i):=fun i h1 A=>by
  obtain⟨l,hl⟩:=Option.isSome_iff_exists.1 (cP.1 hn i h1 A);rw[hf i (by omega) (by omega),fS,if_neg (by omega),if_neg (by omega),if_neg (by omega),if_neg (by omega),if_neg (by omega),if_neg (by omega),if_pos A,pn hl];exact zj hl
 have G:au bs 9=dO:=by rw[hf 9 (by omega) (by omega)];simp[fS]
 rw[rY hl (by rw[h6];exact Cg (by omega)) (Or.inl G) (lG.2 fun i h1 A=>by rw[I i h1 A];rfl)]
 have L:aC (au bs 0)=s:=by
  rw[hf 0 (by omega) (by omega)];refine nt (fun x D=>H x ?_) _;rcases E with⟨_,rfl⟩|⟨_,e⟩
  ·exact D
  ·rw[e];simp[D]
 have J:aC (au bs 10)=p:=by
  rw[hf 10 (by omega) (by omega)];refine nt (fun x D=>H x ?_) _;rcases E with⟨rfl,_⟩|⟨_,e⟩
  ·simp at D
  ·rw[e];simp[D]
 have N:aC (au bs 8)=h.link:=by
  rw[hf 8 (by omega) (by omega)];exact nt O _
 have M:Jw bs=h.kind:=by
  have:au bs 7=[h.kind]:=by rw[hf 7 (by omega) (by omega)];simp[fS]
  rw[Jw,this];exact if_neg hk
 have R:pU bs=false:=by rw[pU,G];decide
 have B:∀i,1≤i→i≤5→dn bs i=jB h i:=fun i h1 A=>by rw[dn,I i h1 A];rfl
 have T:jX p s false=h.name:=by
  unfold jX;rcases E with⟨rfl,rfl⟩|⟨cE,e⟩
  ·rw[if_pos (Or.inr rfl)]
  ·rw[if_neg (by simp[cE]),e]
 rw[ij,L,J,N,M,R,B 1 (by omega) (by omega),B 2 (by omega) (by omega),B 3 (by omega) (by omega),B 4 (by omega) (by omega),B 5 (by omega) (by omega),T]
 cases h
 simp only[jB]at*;rw[U]
theorem Gt (hp:eE h=some bs):∃p s,fH h.name=some (p,s)∧kK h=false∧eA h=true∧bs=ca (qM h p s):=by
 unfold eE at hp
 cases hc:fH h.name with
 |none=>rw[hc]at hp;cases hp
 |some ps=>
  rw[hc]at hp;simp only at hp;split at hp
  ·cases hp
  ·rename_i A
   simp only[Bool.or_eq_true,Bool.not_eq_true',not_or,Bool.not_eq_true,Bool.not_eq_false]at A;exact⟨ps.1,ps.2,rfl,A.1,A.2,(Option.some.inj hp).symm⟩
theorem Ce (hc:fH h.name=some (p,s)) (hb:kK h=false) (hn:eA h=true):
 (∀i,i<11→i≠6→au (ca (qM h p s)) i=fS h p s i)∧au (ca (qM h p s)) 6=uk (dj (ca (qM h p s)) 512):=by
 obtain⟨J,hk,D,I,H⟩:=uz hb;obtain⟨hs,G,L⟩:=oY hc;have B:=Gi hs G D hn;refine⟨fun i hi E=>by rw[kg B hi,qM,iy _ _ E],?_⟩;rw[kg B (by omega),qM,lT];refine congrArg uk (qt fun x A hn=>?_);rw[fG _ A,fG _ A,iy _ _ (fun e=>hn ((qX (by omega)).1 e))]
theorem FG (hp:eE h=some bs):aU bs=(h,0):=by
 obtain⟨p,s,hc,A,B,rfl⟩:=Gt hp;have:=Ce hc A B;exact I4 hc A B (bD _) this.1 this.2
end Hp
end Go.Proofs.YtdhibldkldlfpaaGreatDoor
