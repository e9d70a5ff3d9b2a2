/- Merged. -/
import Derived.Test.YtdhibldkldlfpaaGreatDoorEmitPacksX2
import Derived.Test.YtdhibldkldlfpaaGreatDoorEmitPacksX11
import Derived.Laws.CopyOwn
namespace Go.Proofs.YtdhibldkldlfpaaGreatDoor
set_option linter.unusedVariables false
namespace Hp
open Go.Lib Fp
variable {l p s bs cs name:List UInt8} {i k n x:Nat} {own:Nat→List UInt8} {h:aq}
def fF:Nat→Nat
 |0=>0|1=>100|2=>108|3=>116|4=>124|5=>136|6=>148|7=>156|8=>157|9=>257|10=>345|_=>512
def aj:Nat→Nat
 |0=>100|1=>8|2=>8|3=>8|4=>12|5=>12|6=>8|7=>1|8=>100|9=>8|10=>155|_=>0
def zT (x:Nat):Nat:=
 if x<100 then 0 else if x<108 then 1 else if x<116 then 2 else if x<124 then 3 else if x<136 then 4 else if x<148 then 5 else if x<156 then 6 else if x<157 then 7 else if x<257 then 8 else if x<265 then 9 else if x<345 then 11 else if x<500 then 10 else 11
theorem kB (hi:i<11):i=0∨i=1∨i=2∨i=3∨i=4∨i=5∨i=6∨i=7∨i=8∨i=9∨i=10:=by omega
theorem Vf (x:Nat):∃v lo hi,zT x=v∧lo≤x∧x<hi∧((v=11∧lo=500)∨(v=11∧lo=265∧hi=345)∨(v<11∧fF v=lo∧fF v+aj v=hi)):=by
 by_cases A:x<100
 ·refine⟨0,0,100,?_,by omega,A,?_⟩
  ·unfold zT
   rw[if_pos A]
  ·exact Or.inr (Or.inr ⟨by decide,rfl,rfl⟩)
 by_cases h1:x<108
 ·refine⟨1,100,108,?_,by omega,h1,?_⟩
  ·unfold zT
   rw[if_neg A,if_pos h1]
  ·exact Or.inr (Or.inr ⟨by decide,rfl,rfl⟩)
 by_cases B:x<116
 ·refine⟨2,108,116,?_,by omega,B,?_⟩
  ·unfold zT
   rw[if_neg A,if_neg h1,if_pos B]
  ·exact Or.inr (Or.inr ⟨by decide,rfl,rfl⟩)
 by_cases D:x<124
 ·refine⟨3,116,124,?_,by omega,D,?_⟩
  ·unfold zT
   rw[if_neg A,if_neg h1,if_neg B,if_pos D]
  ·exact Or.inr (Or.inr ⟨by decide,rfl,rfl⟩)
 by_cases E:x<136
 ·refine⟨4,124,136,?_,by omega,E,?_⟩
  ·unfold zT
   rw[if_neg A,if_neg h1,if_neg B,if_neg D,if_pos E]
  ·exact Or.inr (Or.inr ⟨by decide,rfl,rfl⟩)
 by_cases G:x<148
 ·refine⟨5,136,148,?_,by omega,G,?_⟩
  ·unfold zT
   rw[if_neg A,if_neg h1,if_neg B,if_neg D,if_neg E,if_pos G]
  ·exact Or.inr (Or.inr ⟨by decide,rfl,rfl⟩)
 by_cases H:x<156
 ·refine⟨6,148,156,?_,by omega,H,?_⟩
  ·unfold zT
   rw[if_neg A,if_neg h1,if_neg B,if_neg D,if_neg E,if_neg G,if_pos H]
  ·exact Or.inr (Or.inr ⟨by decide,rfl,rfl⟩)
 by_cases I:x<157
 ·refine⟨7,156,157,?_,by omega,I,?_⟩
  ·unfold zT
   rw[if_neg A,if_neg h1,if_neg B,if_neg D,if_neg E,if_neg G,if_neg H,if_pos I]
  ·exact Or.inr (Or.inr ⟨by decide,rfl,rfl⟩)
 by_cases J:x<257
 ·refine⟨8,157,257,?_,by omega,J,?_⟩
  ·unfold zT
   rw[if_neg A,if_neg h1,if_neg B,if_neg D,if_neg E,if_neg G,if_neg H,if_neg I,if_pos J]
  ·exact Or.inr (Or.inr ⟨by decide,rfl,rfl⟩)
 by_cases L:x<265
 ·refine⟨9,257,265,?_,by omega,L,?_⟩
  ·unfold zT
   rw[if_neg A,if_neg h1,if_neg B,if_neg D,if_neg E,if_neg G,if_neg H,if_neg I,if_neg J,if_pos L]
  ·exact Or.inr (Or.inr ⟨by decide,rfl,rfl⟩)
 by_cases M:x<345
 ·refine⟨11,265,345,?_,by omega,M,?_⟩
  ·unfold zT
   rw[if_neg A,if_neg h1,if_neg B,if_neg D,if_neg E,if_neg G,if_neg H,if_neg I,if_neg J,if_neg L,if_pos M]
  ·exact Or.inr (Or.inl ⟨rfl,rfl,rfl⟩)
 by_cases N:x<500
 ·refine⟨10,345,500,?_,by omega,N,?_⟩
  ·unfold zT
   rw[if_neg A,if_neg h1,if_neg B,if_neg D,if_neg E,if_neg G,if_neg H,if_neg I,if_neg J,if_neg L,if_neg M,if_pos N]
  ·exact Or.inr (Or.inr ⟨by decide,rfl,rfl⟩)
 refine⟨11,500,x+1,?_,by omega,by omega,Or.inl ⟨rfl,rfl⟩⟩;unfold zT;rw[if_neg A,if_neg h1,if_neg B,if_neg D,if_neg E,if_neg G,if_neg H,if_neg I,if_neg J,if_neg L,if_neg M,if_neg N]
theorem Nt {j:Nat} (hi:i<11) (hj:j<11) (cX:i≠j):fF i+aj i≤fF j∨fF j+aj j≤fF i:=by
 have h:∀i,i<11→∀j,j<11→i≠j→fF i+aj i≤fF j∨fF j+aj j≤fF i:=by decide
 exact h i hi j hj cX
theorem RB (hi:i<11):fF i+aj i≤265∨345≤fF i∧fF i+aj i≤500:=by
 have h:∀i,i<11→(fF i+aj i≤265∨345≤fF i∧fF i+aj i≤500):=by decide
 exact h i hi
theorem uc (hi:i<11):zT x=i↔fF i≤x∧x<fF i+aj i:=by
 obtain⟨v,lo,E,e,h1,D,A⟩:=Vf x;have hf:=RB hi;rw[e];rcases A with⟨rfl,rfl⟩|⟨rfl,rfl,rfl⟩|⟨A,rfl,rfl⟩
 ·omega
 ·omega
 ·constructor
  ·rintro rfl;exact⟨h1,D⟩
  ·intro h
   rcases Nat.decEq v i with B|rfl
   ·have:=Nt A hi B
    omega
   ·rfl
theorem nf (hi:i<11):fF i+aj i≤512:=by
 rcases kB hi with rfl|rfl|rfl|rfl|rfl|rfl|rfl|rfl|rfl|rfl|rfl<;>simp[fF,aj]
theorem lO (hi:i<11):1≤aj i∧aj i≤155:=by
 rcases kB hi with rfl|rfl|rfl|rfl|rfl|rfl|rfl|rfl|rfl|rfl|rfl<;>simp[aj]
theorem su (hi:¬i<11):aj i=0:=by
 match i,hi with
 |0,hi|1,hi|2,hi|3,hi|4,hi|5,hi|6,hi|7,hi|8,hi|9,hi|10,hi=>exact absurd (by decide) hi
 |i+11,_=>rfl
theorem ng {m:List UInt8} (h:l.length=m.length) (hx:∀x,x<l.length→l.getD x 0=m.getD x 0):l=m:=by
 apply List.ext_getElem h;intro x h1 A;have:=hx x h1;rw[List.getD,List.getD,Qd h1,Qd A]at this
 simpa using this
def Fits (own:Nat→List UInt8):Prop:=∀i,(own i).length=aj i
def ba (own:Nat→List UInt8):List UInt8:=(List.range 512).map fun x=>(own (zT x)).getD (x - fF (zT x)) 0
theorem aI (own:Nat→List UInt8):(ba own).length=512:=by simp[ba]
theorem ir (own:Nat→List UInt8) (h:x<512):(ba own).getD x 0=(own (zT x)).getD (x - fF (zT x)) 0:=by
 simp[ba,List.getD,h]
def aA (bs:List UInt8) (i:Nat):List UInt8:=(bs.drop (fF i)).take (aj i)
theorem kV (hl:bs.length=512) (hi:i<11):(aA bs i).length=aj i:=by
 have:=nf hi;simp only[aA,Qg,Qe];omega
theorem vd (bs:List UInt8) (i j:Nat) (hj:j<aj i):(aA bs i).getD j 0=bs.getD (fF i+j) 0:=by
 simp[aA,List.getD,hj]
theorem lZ (hf:Fits own) (hi:i<11):aA (ba own) i=own i:=by
 have hl:=kV (aI own) hi;refine ng (by rw[hl,hf i]) fun x A=>?_
 rw[hl]at A;have h1:=nf hi;rw[vd _ _ _ A,ir own (by omega),(uc hi).2 ⟨by omega,by omega⟩]
 congr 1
 omega
def pR (own:Nat→List UInt8) (i:Nat) (l:List UInt8):Nat→List UInt8:=fun k=>if k=i then l else own k
theorem nY (own:Nat→List UInt8) (i:Nat) (l:List UInt8):pR own i l i=l:=if_pos rfl
theorem jW (own:Nat→List UInt8) (l:List UInt8) (h:k≠i):pR own i l k=own k:=if_neg h
theorem Fits.pR (h:Fits own) (hl:l.length=aj i):Fits (pR own i l):=fun k=>by
 by_cases hk:k=i
 ·subst hk;rw[nY];exact hl
 ·rw[jW _ _ hk];exact h k
def cd (old cs:List UInt8):List UInt8:=cs++old.drop cs.length
theorem nL {old:List UInt8} (h:cs.length≤old.length):(cd old cs).length=old.length:=by
 simp only[cd,Qf,Qe];omega
theorem kl (L cs:List UInt8) (off x:Nat) (h:off+cs.length≤L.length):(splice L off cs).getD x 0=if off≤x∧x<off+cs.length then cs.getD (x - off) 0 else L.getD x 0:=by
 unfold splice;have hm:min off L.length=off:=by omega
 simp only[List.getD,List.getElem?_append,Qg,hm]
 by_cases h1:x<off
 ·rw[if_pos h1,if_neg (by omega),List.getElem?_take,if_pos h1]
 ·rw[if_neg h1]
  by_cases A:x - off<cs.length
  ·rw[if_pos A,if_pos (by omega)]
  ·rw[if_neg A,if_neg (by omega),List.getElem?_drop]
   congr 2
   omega
theorem nS (L cs:List UInt8):splice L 0 cs=cd L cs:=by simp[splice,cd]
theorem Di (old cs:List UInt8) (x:Nat) (h:cs.length≤old.length):(cd old cs).getD x 0=if x<cs.length then cs.getD x 0 else old.getD x 0:=by
 rw[←nS,kl _ _ _ _ (by omega)];simp
theorem iR (hf:Fits own) (hi:i<11) (hl:cs.length≤aj i):splice (ba own) (fF i) cs=ba (pR own i (cd (own i) cs)):=by
 have h1:=nf hi;have D:(splice (ba own) (fF i) cs).length=512:=by rw[length_splice _ _ _ (by rw[aI];omega),aI]
 refine ng (by rw[D,aI]) fun x A=>?_
 rw[D]at A;rw[kl _ _ _ _ (by rw[aI];omega),ir _ A,ir _ A]
 by_cases E:fF i≤x∧x<fF i+aj i
 ·rw[(uc hi).2 E,nY,Di _ _ _ (by rw[hf i];exact hl)]
  by_cases B:x - fF i<cs.length
  ·rw[if_pos (by omega),if_pos B]
  ·rw[if_neg (by omega),if_neg B]
 ·rw[if_neg (by omega),jW _ _ (fun e=>E ((uc hi).1 e))]
def ey:Nat→List UInt8:=fun i=>List.replicate (aj i) 0
theorem ko:Fits ey:=fun i=>List.length_replicate
theorem sF:ba ey=List.replicate 512 0:=by
 refine ng (by rw[aI,List.length_replicate]) fun x A=>?_
 rw[aI]at A;rw[ir _ A];simp only[ey,List.getD,List.getElem?_replicate,if_pos A];split<;>rfl
def dO (bs:List UInt8):Nat→List UInt8:=fun i=>if i<11 then aA bs i else[]
theorem GB (hl:bs.length=512):Fits (dO bs):=fun i=>by
 unfold dO;split
 ·exact kV hl ‹_›
 ·rw[su ‹_›];rfl
theorem vg {a b:Nat→List UInt8} (ha:Fits a) (hb:Fits b) (h:∀i,i<11→a i=b i):a=b:=by
 funext i
 by_cases hi:i<11
 ·exact h i hi
 ·have h1:=ha i
  have A:=hb i;rw[su hi]at h1 A;rw[List.eq_nil_of_length_eq_zero h1,List.eq_nil_of_length_eq_zero A]
def bN (bs:List UInt8):Nat→Nat
 |0=>0
 |k+1=>bN bs k+(bs.getD k 0).toNat
def dc (bs:List UInt8):Nat→Nat
 |0=>0
 |k+1=>dc bs k+(if 148≤k∧k<156 then 32 else(bs.getD k 0).toNat)
theorem kh (bs:List UInt8):∀k,bN bs k≤255*k
 |0=>Qk _
 |k+1=>by have:=kh bs k;have:=(bs.getD k 0).toNat_lt;rw[bN];omega
theorem nW (bs:List UInt8):∀k,dc bs k≤255*k
 |0=>Qk _
 |k+1=>by have:=nW bs k;have:=(bs.getD k 0).toNat_lt;rw[dc];split<;>omega
theorem qR {bs:List UInt8}:∀{k:Nat},bN bs k=0↔∀x,x<k→bs.getD x 0=0
 |0=>⟨fun _ x A=>by omega,fun _=>rfl⟩
 |k+1=>by
  rw[bN,Nat.add_eq_zero_iff,qR (k:=k)];constructor
  ·rintro⟨h1,h2⟩ x A
   by_cases hk:x=k
   ·subst hk;exact UInt8.toNat_inj.1 h2
   ·exact h1 x (by omega)
  ·intro h
   exact⟨fun x A=>h x (by omega),by rw[h k (by omega)];rfl⟩
theorem tA {a b:List UInt8}:∀{k:Nat},(∀x,x<k→¬(148≤x∧x<156)→a.getD x 0=b.getD x 0)→dc a k=dc b k
 |0,_=>rfl
 |k+1,h=>by
  rw[dc,dc,tA (k:=k) fun x B A=>h x (by omega) A];split
  ·rfl
  ·rw[h k (by omega) ‹_›]
theorem vn (bs:List UInt8) (k x:Nat) (v:UInt8) (hk:k<bs.length):(bs.set k v).getD x 0=if x=k then v else bs.getD x 0:=by
 simp only[List.getD,List.getElem?_set]
 by_cases h:k=x
 ·subst h;simp[hk]
 ·simp[h,Ne.symm h]
theorem zu:dc bs 512+bN (aA bs 6) 8=bN bs 512+256:=by
 have a:∀k,k≤148→dc bs k=bN bs k:=by
  intro k
  induction k with
  |zero=>intro _;rfl
  |succ k ih=>intro hk;rw[dc,bN,ih (by omega),if_neg (by omega)]
 have b:∀j,j≤8→dc bs (148+j)+bN (aA bs 6) j=bN bs (148+j)+32*j:=by
  intro j
  induction j with
  |zero=>intro _;rw[Nat.add_zero,a 148 (by omega)];rfl
  |succ j ih=>
   intro A;have:=ih (by omega);rw[show 148+(j+1)=(148+j)+1 by omega,dc,bN,bN,vd bs 6 j (by simp[aj];omega),if_pos (by omega),show fF 6+j=148+j from rfl];omega
 have c:∀j,dc bs (156+j)+bN (aA bs 6) 8=bN bs (156+j)+256:=by
  intro j
  induction j with
  |zero=>exact b 8 (by omega)
  |succ j ih=>rw[show 156+(j+1)=(156+j)+1 by omega,dc,bN.eq_2 bs (156+j),if_neg (by omega)];omega
 exact c 356
attribute [irreducible] dc bN ba
def aK (l:List UInt8):List UInt8:=l.takeWhile (· != 0)
theorem pP (h:∀x∈s,x≠0) (n:Nat):aK (s++List.replicate n 0)=s:=by
 unfold aK
 induction s with
 |nil=>
  cases n with
  |zero=>rfl
  |succ n=>rw[List.nil_append,List.replicate_succ,List.takeWhile_cons,if_neg (by decide)]
 |cons c t ih=>
  rw[List.cons_append,List.takeWhile_cons,if_pos (by simpa using h c (List.mem_cons_self ..)),ih fun x A=>h x (List.mem_cons_of_mem _ A)]
def dq:List UInt8:=[117,115,116,97,114,0,48,48]
def tH:List UInt8:=[117,115,116,97,114,32,32,0]
def lG (p s:List UInt8) (fL:Bool):List UInt8:=if fL=true∨p=[]then s else p++47::s
def kH (bs:List UInt8):Bool:=(List.range 5).all fun i=>Pw (bM (aA bs (i+1)))
def eL (bs:List UInt8) (i:Nat):Int:=qZ (bM (aA bs i))
def OQ (bs:List UInt8):UInt8:=if(aA bs 7).getD 0 0=0 then 48 else(aA bs 7).getD 0 0
def sO (bs:List UInt8):Bool:=aA bs 9==tH
def jJ (bs:List UInt8):aq:=
 ⟨lG (aK (aA bs 10)) (aK (aA bs 0)) (sO bs),aK (aA bs 8),OQ bs,eL bs 1,eL bs 2,eL bs 3,eL bs 5,eL bs 4,sO bs⟩
def bG (bs:List UInt8):aq × Int:=
 if bs.length≠512 then(ch,1)
 else if bM (aA bs 6)≠some (dc bs 512:Int)then(ch,3)
 else if aA bs 9≠dq∧aA bs 9≠tH then(ch,9)
 else if kH bs=true then(jJ bs,0)else(ch,4)
theorem KK (h:bs.length≠512):bG bs=(ch,1):=if_pos h
theorem yE (h:bs.length=512) (h1:bM (aA bs 6)≠some (dc bs 512:Int)):bG bs=(ch,3):=by
 rw[bG,if_neg (by simp[h]),if_pos h1]
theorem Fx (h:bs.length=512) (h1:bM (aA bs 6)=some (dc bs 512:Int)) (h2:aA bs 9≠dq∧aA bs 9≠tH):bG bs=(ch,9):=by
 rw[bG,if_neg (by simp[h]),if_neg (by simp[h1]),if_pos h2]
theorem yD (h:bs.length=512) (h1:bM (aA bs 6)=some (dc bs 512:Int)) (h2:aA bs 9=dq∨aA bs 9=tH) (h3:kH bs=false):bG bs=(ch,4):=by
 rw[bG,if_neg (by simp[h]),if_neg (by simp[h1]),if_neg (by rcases h2 with h2|h2<;>simp[h2]),if_neg (by simp[h3])]
theorem vA (h:bs.length=512) (h1:bM (aA bs 6)=some (dc bs 512:Int)) (h2:aA bs 9=dq∨aA bs 9=tH) (h3:kH bs=true):bG bs=(jJ bs,0):=by
 rw[bG,if_neg (by simp[h]),if_neg (by simp[h1]),if_neg (by rcases h2 with h2|h2<;>simp[h2]),if_pos h3]
theorem nF:kH bs=true↔∀i,1≤i→i≤5→Pw (bM (aA bs i))=true:=by
 unfold kH;rw[List.all_eq_true];constructor
 ·intro h i h1 A
  have:=h (i - 1) (List.mem_range.2 (by omega))
  rwa [show i - 1+1=i by omega]at this
 ·intro h i hi
  have:=List.mem_range.1 hi;exact h (i+1) (by omega) (by omega)
def cV (name:List UInt8) (i:Nat):Prop:=name.getD i 0=47∧1≤i∧i≤155∧i+2≤name.length∧name.length≤i+101
instance (name:List UInt8) (i:Nat):Decidable (cV name i):=by unfold cV;exact inferInstance
def E7 (name:List UInt8):Option Nat:=(List.range name.length).find? fun i=>decide (cV name i)
def fR (name:List UInt8):Option (List UInt8 × List UInt8):=
 if name.length≤100 then some ([],name)else(E7 name).map fun i=>(name.take i,name.drop (i+1))
theorem Ke (hk:cV name k) (ao:∀j,j<k→¬cV name j):E7 name=some k:=by
 have B:k<name.length:=by unfold cV at hk;omega
 unfold E7;rw[List.find?_eq_some_iff_getElem];refine⟨by simpa using hk,k,by simpa using B,by simp,fun j A=>by simpa using ao j A⟩
theorem Kd (h:∀j,j<name.length→¬cV name j):E7 name=none:=by
 unfold E7;rw[List.find?_eq_none];intro j A
 simpa using h j (List.mem_range.1 A)
theorem lX (h:name.length≤100):fR name=some ([],name):=if_pos h
theorem H7 (h:¬name.length≤100) (hk:cV name k) (ao:∀j,j<k→¬cV name j):fR name=some (name.take k,name.drop (k+1)):=by
 rw[fR,if_neg h,Ke hk ao];rfl
theorem yu (h:¬name.length≤100) (hn:∀j,j<name.length→¬cV name j):fR name=none:=by
 rw[fR,if_neg h,Kd hn];rfl
theorem oh (h:fR name=some (p,s)):s.length≤100∧p.length≤155∧((p=[]∧s=name)∨(p≠[]∧name=p++47::s)):=by
 unfold fR at h;split at h
 ·cases h
  exact⟨‹_›,by simp,Or.inl ⟨rfl,rfl⟩⟩
 ·cases hc:E7 name with
  |none=>rw[hc]at h;cases h
  |some k=>
   rw[hc]at h;simp only[Option.map_some,Option.some.injEq,Prod.mk.injEq]at h;obtain⟨rfl,rfl⟩:=h
   have hm:cV name k:=by
    unfold E7 at hc
    simpa using List.find?_some hc
   obtain⟨h1,D,E,G,H⟩:=hm;refine⟨by rw[Qe];omega,by rw[Qg];omega,Or.inr ⟨fun e=>?_,?_⟩⟩
   ·have:=congrArg List.length e
    rw[Qg,List.length_nil]at this;omega
   ·have hk:k<name.length:=by omega
    have A:name=name.take k++name.drop k:=(List.take_append_drop k name).symm;rw[List.drop_eq_getElem_cons hk]at A;have B:name[k]=47:=by simpa [List.getD,hk]using h1
    rw[B]at A;exact A
def jx (n:Nat) (s:List UInt8):List UInt8:=s++List.replicate (n - s.length) 0
theorem mC (h:s.length≤n):(jx n s).length=n:=by
 simp only[jx,Qf,List.length_replicate];omega
theorem jH (n:Nat) (s:List UInt8):cd (List.replicate n 0) s=jx n s:=by
 simp[cd,jx,List.drop_replicate]
def xT (h:aq) (i:Nat):List UInt8:=bytesOf ((dJ (ia h i) (aj i)).getD [])
def eX (h:aq):Bool:=(List.range 5).all fun i=>(dJ (ia h (i+1)) (aj (i+1))).isSome
theorem dn:eX h=true↔∀i,1≤i→i≤5→(dJ (ia h i) (aj i)).isSome=true:=by
 unfold eX;rw[List.all_eq_true];constructor
 ·intro g i h1 A
  have:=g (i - 1) (List.mem_range.2 (by omega))
  rwa [show i - 1+1=i by omega]at this
 ·intro g i hi
  have:=List.mem_range.1 hi;exact g (i+1) (by omega) (by omega)
theorem oH {l:List Int} (hp:dJ (ia h i) (aj i)=some l):xT h i=bytesOf l:=by rw[xT,hp];rfl
theorem fB (hp:(dJ (ia h i) (aj i)).isSome=true):(xT h i).length=aj i:=by
 obtain⟨l,hl⟩:=Option.isSome_iff_exists.1 hp;rw[oH hl,bytesOf_length];have:=(tr hl).1;omega
def gX (h:aq):Bool:=h.fL||h.kind==0||decide (100<h.link.length)||h.name.contains 0||h.link.contains 0
def fq (h:aq) (p s:List UInt8) (i:Nat):List UInt8:=
 if i=0 then jx 100 s else if i=6 then List.replicate 8 0 else if i=7 then[h.kind]else if i=8 then jx 100 h.link else if i=9 then dq else if i=10 then jx 155 p else if i≤5 then xT h i else[]
def sf (n:Nat):List UInt8:=bytesOf (dI 8 48 6 n++[0])++[32]
theorem jf (n:Nat):(sf n).length=8:=by simp[sf,bytesOf_length,cP]
def rS (h:aq) (p s:List UInt8):Nat→List UInt8:=pR (fq h p s) 6 (sf (dc (ba (fq h p s)) 512))
def eI (h:aq):Option (List UInt8):=
 match fR h.name with
 |none=>none
 |some ps=>if gX h||!eX h then none else some (ba (rS h ps.1 ps.2))
theorem oL (hs:s.length≤100) (hp:p.length≤155) (hl:h.link.length≤100) (hn:eX h=true):Fits (fq h p s):=fun i=>by
 unfold fq
 by_cases hi:i<11
 ·rcases kB hi with rfl|rfl|rfl|rfl|rfl|rfl|rfl|rfl|rfl|rfl|rfl
  ·simpa [aj]using mC hs
  ·simpa using fB (dn.1 hn 1 (by omega) (by omega))
  ·simpa using fB (dn.1 hn 2 (by omega) (by omega))
  ·simpa using fB (dn.1 hn 3 (by omega) (by omega))
  ·simpa using fB (dn.1 hn 4 (by omega) (by omega))
  ·simpa using fB (dn.1 hn 5 (by omega) (by omega))
  ·simp[aj]
  ·simp[aj]
  ·simpa [aj]using mC hl
  ·simp[aj,dq]
  ·simpa [aj]using mC hp
 ·rw[su hi,if_neg (by omega),if_neg (by omega),if_neg (by omega),if_neg (by omega),if_neg (by omega),if_neg (by omega),if_neg (by omega)]
  rfl
theorem Lt (hs:s.length≤100) (hp:p.length≤155) (hl:h.link.length≤100) (hn:eX h=true):Fits (rS h p s):=
 (oL hs hp hl hn).pR (by rw[jf];rfl)
theorem PO (h:n<262144):cZ 8 6 n=0:=by
 simp only[cZ];omega
theorem qT (h:n<262144):dJ n 7=some (dI 8 48 6 n++[0]):=rW (by omega) (by omega) (by omega) (by omega) (PO h)
theorem Gi (h:n<262144):bM (sf n)=some (n:Int):=by
 have:=qO n 6 (by omega) (by omega) (by omega) (PO h) [] [0,32] (by simp) (by simp);rw[List.nil_append]at this;rw[sf,jZ,List.append_assoc];exact this
theorem yl (hb:gX h=false):h.fL=false∧h.kind≠0∧h.link.length≤100∧(∀x∈h.name,x≠0)∧(∀x∈h.link,x≠0):=by
 simp only[gX,Bool.or_eq_false_iff,beq_eq_false_iff_ne,decide_eq_false_iff_not,List.contains_eq_mem,ne_eq]at hb;obtain⟨⟨⟨⟨h1,B⟩,G⟩,D⟩,E⟩:=hb;exact⟨h1,B,by omega,fun x A e=>D (e▸A),fun x A e=>E (e▸A)⟩
theorem Of (hc:fR h.name=some (p,s)) (hb:gX h=false) (hn:eX h=true) (hl:bs.length=512)
 (hf:∀i,i<11→i≠6→aA bs i=fq h p s i) (h6:aA bs 6=sf (dc bs 512)):bG bs=(h,0):=by
 obtain⟨U,hk,V,G,L⟩:=yl hb;obtain⟨hs,X,E⟩:=oh hc;have W:=nW bs 512
 have I:∀i,1≤i→i≤5→bM (aA bs i)=some (ia h i):=fun i h1 A=>by
  obtain⟨l,hl⟩:=Option.isSome_iff_exists.1 (dn.1 hn i h1 A);rw[hf i (by omega) (by omega),fq,if_neg (by omega),if_neg (by omega),if_neg (by omega),if_neg (by omega),if_neg (by omega),if_neg (by omega),if_pos A,oH hl];exact Dd hl
 have H:aA bs 9=dq:=by rw[hf 9 (by omega) (by omega)];simp[fq]
 rw[vA hl (by rw[h6];exact Gi (by omega)) (Or.inl H) (nF.2 fun i h1 A=>by rw[I i h1 A];rfl)]
 have M:aK (aA bs 0)=s:=by
  rw[hf 0 (by omega) (by omega)];refine pP (fun x D=>G x ?_) _;rcases E with⟨_,rfl⟩|⟨_,e⟩
  ·exact D
  ·rw[e];simp[D]
 have J:aK (aA bs 10)=p:=by
  rw[hf 10 (by omega) (by omega)];refine pP (fun x D=>G x ?_) _;rcases E with⟨rfl,_⟩|⟨_,e⟩
  ·simp at D
  ·rw[e];simp[D]
 have O:aK (aA bs 8)=h.link:=by
  rw[hf 8 (by omega) (by omega)];exact pP L _
 have N:OQ bs=h.kind:=by
  have:aA bs 7=[h.kind]:=by rw[hf 7 (by omega) (by omega)];simp[fq]
  rw[OQ,this];exact if_neg hk
 have R:sO bs=false:=by rw[sO,H];decide
 have B:∀i,1≤i→i≤5→eL bs i=ia h i:=fun i h1 A=>by rw[eL,I i h1 A];rfl
 have T:lG p s false=h.name:=by
  unfold lG;rcases E with⟨rfl,rfl⟩|⟨cX,e⟩
  ·rw[if_pos (Or.inr rfl)]
  ·rw[if_neg (by simp[cX]),e]
 rw[jJ,M,J,O,N,R,B 1 (by omega) (by omega),B 2 (by omega) (by omega),B 3 (by omega) (by omega),B 4 (by omega) (by omega),B 5 (by omega) (by omega),T]
 cases h
 simp only[ia]at*;rw[U]
theorem LR (hp:eI h=some bs):∃p s,fR h.name=some (p,s)∧gX h=false∧eX h=true∧bs=ba (rS h p s):=by
 unfold eI at hp
 cases hc:fR h.name with
 |none=>rw[hc]at hp;cases hp
 |some ps=>
  rw[hc]at hp;simp only at hp;split at hp
  ·cases hp
  ·rename_i A
   simp only[Bool.or_eq_true,Bool.not_eq_true',not_or,Bool.not_eq_true,Bool.not_eq_false]at A;exact⟨ps.1,ps.2,rfl,A.1,A.2,(Option.some.inj hp).symm⟩
theorem Gf (hc:fR h.name=some (p,s)) (hb:gX h=false) (hn:eX h=true):
 (∀i,i<11→i≠6→aA (ba (rS h p s)) i=fq h p s i)∧aA (ba (rS h p s)) 6=sf (dc (ba (rS h p s)) 512):=by
 obtain⟨L,hk,D,I,J⟩:=yl hb;obtain⟨hs,G,H⟩:=oh hc;have B:=Lt hs G D hn;refine⟨fun i hi E=>by rw[lZ B hi,rS,jW _ _ E],?_⟩;rw[lZ B (by omega),rS,nY];refine congrArg sf (tA fun x A hn=>?_);rw[ir _ A,ir _ A,jW _ _ (fun e=>hn ((uc (by omega)).1 e))]
theorem KL (hp:eI h=some bs):bG bs=(h,0):=by
 obtain⟨p,s,hc,A,B,rfl⟩:=LR hp;have:=Gf hc A B;exact Of hc A B (aI _) this.1 this.2
end Hp
end Go.Proofs.YtdhibldkldlfpaaGreatDoor
