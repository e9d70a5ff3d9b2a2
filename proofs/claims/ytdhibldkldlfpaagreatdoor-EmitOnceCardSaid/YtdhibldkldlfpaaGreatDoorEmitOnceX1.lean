/- Merged. -/
import Derived.Lib.ValidU
import Derived.Lib.IndexLaws
namespace Go.Proofs.YtdhibldkldlfpaaGreatDoor
namespace Path
end Path
set_option linter.unusedVariables false
open Go.Lib
namespace Path
def bW (c:Nat):Nat:=if c=0 then 0 else if c<128 then 1 else if 194≤c∧c<224 then 2 else if 224≤c∧c<240 then 3 else if 240≤c∧c<245 then 4 else 0
def at_ (l:List UInt8) (k:Nat):Nat:=(l.getD k 0).toNat
def fk (c:Nat):Prop:=128≤c∧c≤191
instance (c:Nat):Decidable (fk c):=inferInstanceAs (Decidable (_∧_))
def gQ (n c b:Nat):Prop:=(n=3∧(c=224∧b<160∨c=237∧159<b))∨(n=4∧(c=240∧b<144∨c=244∧143<b))
instance (n c b:Nat):Decidable (gQ n c b):=inferInstanceAs (Decidable (_∨_))
def dA (l:List UInt8):Prop:=
 bW (at_ l 0)≠0∧bW (at_ l 0)≤l.length∧(∀k,k<bW (at_ l 0)→0<k→fk (at_ l k))∧¬gQ (bW (at_ l 0)) (at_ l 0) (at_ l 1)
instance (l:List UInt8):Decidable (dA l):=inferInstanceAs (Decidable (_∧_∧_∧_))
def jE:Nat→List UInt8→Bool
 |0,_=>true
 |n+1,l=>if l=[]then true else if dA l then jE n (l.drop (bW (at_ l 0)))else false
def aS (l:List UInt8):Bool:=jE l.length l
theorem MO (c:Nat):bW c≤4:=by unfold bW;repeat' split
                              all_goals omega
theorem zK (n:Nat):∀m l,l.length≤n→l.length≤m→jE n l=jE m l:=by
 induction n with
 |zero=>
  intro m l h _;have:l=[]:=List.length_eq_zero_iff.1 (by omega);subst this
  cases m<;>simp[jE]
 |succ n ih=>
  intro m l h1 D
  cases m with
  |zero=>
   have:l=[]:=List.length_eq_zero_iff.1 (by omega);subst this;simp[jE]
  |succ m=>
   unfold jE
   by_cases hl:l=[]
   ·rw[if_pos hl,if_pos hl]
   ·rw[if_neg hl,if_neg hl]
    by_cases A:dA l
    ·rw[if_pos A,if_pos A]
     have:0<bW (at_ l 0):=Nat.pos_of_ne_zero A.1;have B:0<l.length:=List.length_pos_iff.2 hl;exact ih m _ (by rw[List.length_drop];omega) (by rw[List.length_drop];omega)
    ·rw[if_neg A,if_neg A]
theorem px:aS []=true:=rfl
theorem eK (l:List UInt8) (hl:l≠[]):aS l=if dA l then aS (l.drop (bW (at_ l 0)))else false:=by
 have D:0<l.length:=List.length_pos_iff.2 hl;unfold aS;obtain⟨n,B⟩:∃n,l.length=n+1:=⟨l.length - 1,by omega⟩
 rw[B,jE,if_neg hl]
 by_cases A:dA l
 ·rw[if_pos A,if_pos A]
  have:0<bW (at_ l 0):=Nat.pos_of_ne_zero A.1;exact zK _ _ _ (by rw[List.length_drop];omega) (Nat.le_refl _)
 ·rw[if_neg A,if_neg A]
theorem get_at (l:List UInt8) (k:Nat):((⟨l.toArray⟩:ByteArray).get! k).toNat=at_ l k:=by
 unfold at_ ByteArray.get!;simp only[Array.getElem!_eq_getD]
 by_cases h:k<l.length
 ·simp[Array.getD,List.getD,h]
 ·simp[Array.getD,List.getD,h]
  rfl
theorem Fe (l:List UInt8):decodeL l=
 (if at_ l 0<128 then(at_ l 0,1)
  else if at_ l 0 / 32=6∧(1<l.length∧at_ l 1 / 64=2)then
   (if 128≤at_ l 0 % 32*64+at_ l 1 % 64 then(at_ l 0 % 32*64+at_ l 1 % 64,2)else(65533,1))
  else if at_ l 0 / 16=14∧(1<l.length∧at_ l 1 / 64=2)∧(2<l.length∧at_ l 2 / 64=2)then
   (if 2048≤at_ l 0 % 16*4096+at_ l 1 % 64*64+at_ l 2 % 64∧Utf8.valid (at_ l 0 % 16*4096+at_ l 1 % 64*64+at_ l 2 % 64:Nat)=true then(at_ l 0 % 16*4096+at_ l 1 % 64*64+at_ l 2 % 64,3)else(65533,1))
  else if at_ l 0 / 8=30∧(1<l.length∧at_ l 1 / 64=2)∧(2<l.length∧at_ l 2 / 64=2)∧(3<l.length∧at_ l 3 / 64=2)then
   (if 65536≤at_ l 0 % 8*262144+at_ l 1 % 64*4096+at_ l 2 % 64*64+at_ l 3 % 64∧Utf8.valid (at_ l 0 % 8*262144+at_ l 1 % 64*4096+at_ l 2 % 64*64+at_ l 3 % 64:Nat)=true then(at_ l 0 % 8*262144+at_ l 1 % 64*4096+at_ l 2 % 64*64+at_ l 3 % 64,4)else(65533,1))
  else(65533,1)):=by
 unfold decodeL Utf8.decode;simp only[Nat.zero_add,get_at,show(⟨l.toArray⟩:ByteArray).size=l.length by simp[ByteArray.size],Utf8.runeError,ge_iff_le,Bool.and_eq_true,decide_eq_true_eq,beq_iff_eq,and_assoc]
theorem Df (l:List UInt8) (k:Nat):at_ l k<256:=(l.getD k 0).toNat_lt
theorem G3 (c:Nat):Utf8.valid (c:Int)=true↔(c<55296∨(57344≤c∧c≤1114111)):=by
 unfold Utf8.valid;simp only[Bool.or_eq_true,Bool.and_eq_true,decide_eq_true_eq];omega
theorem yF (l:List UInt8) (hl:l≠[]) (h0:at_ l 0≠0):
 (dA l→¬((decodeL l).1=65533∧(decodeL l).2=1)∧(decodeL l).2=bW (at_ l 0))∧(¬dA l→(decodeL l).1=65533∧(decodeL l).2=1):=by
 have G:0<l.length:=List.length_pos_iff.2 hl;rw[Fe];simp only[G3];have H:=Df l 0;have I:=Df l 1;have J:=Df l 2;have L:=Df l 3
 have key:dA l↔bW (at_ l 0)≠0∧bW (at_ l 0)≤l.length∧(1<bW (at_ l 0)→fk (at_ l 1))∧(2<bW (at_ l 0)→fk (at_ l 2))∧(3<bW (at_ l 0)→fk (at_ l 3))∧¬gQ (bW (at_ l 0)) (at_ l 0) (at_ l 1):=by
  have E:=MO (at_ l 0);constructor
  ·rintro⟨h1,D,A,h5⟩
   exact⟨h1,D,fun h=>A 1 h (by omega),fun h=>A 2 h (by omega),fun h=>A 3 h (by omega),h5⟩
  ·rintro⟨h1,D,A,h5,h6,h7⟩
   refine⟨h1,D,fun k hk M=>?_,h7⟩;rcases(show k=1∨k=2∨k=3 by omega)with rfl|rfl|rfl
   ·exact A hk
   ·exact h5 hk
   ·exact h6 hk
 rw[key];generalize at_ l 0=c0 at*;generalize at_ l 1=c1 at*;generalize at_ l 2=c2 at*;generalize at_ l 3=c3 at*;generalize l.length=n at*;clear key hl
 by_cases h1:c0<128
 ·have hw:bW c0=1:=by unfold bW;rw[if_neg h0,if_pos h1]
  rw[hw,if_pos h1];unfold gQ;refine⟨fun _=>⟨by simp;omega,rfl⟩,fun h=>absurd ?_ h⟩;exact⟨by omega,by omega,fun h=>by omega,fun h=>by omega,fun h=>by omega,by omega⟩
 ·rw[if_neg h1]
  by_cases D:194≤c0∧c0<224
  ·have hw:bW c0=2:=by unfold bW;rw[if_neg h0,if_neg h1,if_pos D]
   rw[hw]
   by_cases hc:1<n∧c1 / 64=2
   ·rw[if_pos ⟨by omega,hc⟩,if_pos (by omega)]
    unfold fk gQ;refine⟨fun _=>⟨by simp,rfl⟩,fun h=>absurd ?_ h⟩;exact⟨by omega,by omega,fun _=>by omega,fun h=>by omega,fun h=>by omega,by omega⟩
   ·rw[if_neg (by omega),if_neg (by omega),if_neg (by omega)]
    unfold fk;refine⟨fun h=>absurd ?_ hc,fun _=>⟨rfl,rfl⟩⟩;have:=h.2.1;have:=h.2.2.1 (by omega);omega
  ·by_cases A:224≤c0∧c0<240
   ·have hw:bW c0=3:=by unfold bW;rw[if_neg h0,if_neg h1,if_neg D,if_pos A]
    rw[hw,if_neg (by omega)]
    by_cases hc:(1<n∧c1 / 64=2)∧(2<n∧c2 / 64=2)
    ·rw[if_pos ⟨by omega,hc.1,hc.2⟩]
     by_cases B:gQ 3 c0 c1
     ·rw[if_neg (by unfold gQ at B;omega)]
      exact⟨fun h=>absurd B h.2.2.2.2.2,fun _=>⟨rfl,rfl⟩⟩
     ·rw[if_pos (by unfold gQ at B;omega)]
      refine⟨fun _=>⟨by simp,rfl⟩,fun h=>absurd ?_ h⟩;unfold fk;exact⟨by omega,by omega,fun _=>by omega,fun _=>by omega,fun h=>by omega,B⟩
    ·rw[if_neg (by omega),if_neg (by omega)]
     unfold fk;refine⟨fun h=>absurd ?_ hc,fun _=>⟨rfl,rfl⟩⟩;have:=h.2.1;have:=h.2.2.1 (by omega);have:=h.2.2.2.1 (by omega);omega
   ·by_cases E:240≤c0∧c0<245
    ·have hw:bW c0=4:=by unfold bW;rw[if_neg h0,if_neg h1,if_neg D,if_neg A,if_pos E]
     rw[hw,if_neg (by omega),if_neg (by omega)]
     by_cases hc:(1<n∧c1 / 64=2)∧(2<n∧c2 / 64=2)∧(3<n∧c3 / 64=2)
     ·rw[if_pos ⟨by omega,hc.1,hc.2.1,hc.2.2⟩]
      by_cases B:gQ 4 c0 c1
      ·rw[if_neg (by unfold gQ at B;omega)]
       exact⟨fun h=>absurd B h.2.2.2.2.2,fun _=>⟨rfl,rfl⟩⟩
      ·rw[if_pos (by unfold gQ at B;omega)]
       refine⟨fun _=>⟨by simp,rfl⟩,fun h=>absurd ?_ h⟩;unfold fk;exact⟨by omega,by omega,fun _=>by omega,fun _=>by omega,fun _=>by omega,B⟩
     ·rw[if_neg (by omega)]
      unfold fk;refine⟨fun h=>absurd ?_ hc,fun _=>⟨rfl,rfl⟩⟩;have:=h.2.1;have:=h.2.2.1 (by omega);have:=h.2.2.2.1 (by omega);have:=h.2.2.2.2.1 (by omega);omega
    ·have hw:bW c0=0:=by unfold bW;rw[if_neg h0,if_neg h1,if_neg D,if_neg A,if_neg E]
     rw[hw];refine⟨fun h=>absurd rfl h.1,fun _=>?_⟩
     by_cases g2:c0 / 32=6∧1<n∧c1 / 64=2
     ·rw[if_pos g2,if_neg (by omega)]
      exact⟨rfl,rfl⟩
     ·rw[if_neg g2,if_neg (by omega)]
      by_cases g4:c0 / 8=30∧(1<n∧c1 / 64=2)∧(2<n∧c2 / 64=2)∧(3<n∧c3 / 64=2)
      ·rw[if_pos g4,if_neg (by omega)]
       exact⟨rfl,rfl⟩
      ·rw[if_neg g4]
       exact⟨rfl,rfl⟩
theorem xF (n:Nat):∀l:List UInt8,l.length≤n→jE n l=(validGoD n l&&!(l.contains 0)):=by
 induction n with
 |zero=>
  intro l h;have:l=[]:=List.length_eq_zero_iff.1 (by omega);subst this;rfl
 |succ n ih=>
  intro l h;unfold jE validGoD
  by_cases hl:l=[]
  ·subst hl;rfl
  ·rw[if_neg hl,if_neg hl]
   by_cases B:at_ l 0=0
   ·have hc:l.contains 0=true:=by
     cases l with
     |nil=>exact absurd rfl hl
     |cons b t=>
      have:b=0:=UInt8.toNat_inj.1 (by simpa [at_]using B);subst this;simp
    rw[hc,if_neg (fun A=>A.1 (by rw[B];rfl))];simp
   ·obtain⟨D,H⟩:=yF l hl B
    by_cases A:dA l
    ·rw[if_pos A,if_neg (D A).1,(D A).2]
     have hw:0<bW (at_ l 0):=Nat.pos_of_ne_zero A.1;have I:0<l.length:=List.length_pos_iff.2 hl;rw[ih _ (by rw[List.length_drop];omega)]
     congr 2
     rw[Bool.eq_iff_iff];simp only[List.contains_iff_mem];constructor
     ·exact fun h=>List.mem_of_mem_drop h
     ·intro h
      rw[←List.take_append_drop (bW (at_ l 0)) l,List.mem_append]at h;rcases h with h|h
      ·obtain⟨i,hi,he⟩:=List.mem_iff_getElem.1 h
       rw[List.length_take]at hi;rw[List.getElem_take]at he;have G:at_ l i=0:=by unfold at_;rw[List.getD,List.getElem?_eq_getElem (by omega),he];rfl
       by_cases E:i=0
       ·subst E;exact absurd G B
       ·have:=A.2.2.1 i (by omega) (by omega)
        unfold fk at this;omega
      ·exact h
    ·rw[if_neg A,if_pos (H A)]
     simp
theorem tE (l:List UInt8):aS l=(validD l&&!(l.contains 0)):=xF _ l (Nat.le_refl _)
theorem ff (x z:List UInt8) (k:Nat) (h:k<x.length):at_ (x++z) k=at_ x k:=by
 unfold at_;simp[List.getD,List.getElem?_append_left h]
theorem yE (x z:List UInt8) (hx:x≠[]):dA x→dA (x++z):=by
 have hl:0<x.length:=List.length_pos_iff.2 hx;rintro⟨h1,h2,h3,h4⟩;have A:=ff x z 0 hl;refine⟨by rw[A];exact h1,by rw[A,List.length_append];omega,fun k hk B=>?_,?_⟩
 ·rw[A]at hk
  rw[ff x z k (by omega)];exact h3 k hk B
 ·rw[A]
  by_cases hw:1<x.length
  ·rwa [ff x z 1 hw]
  ·unfold gQ
   omega
theorem I5 (x y:List UInt8) (hx:x≠[]):dA (x++47::y)→dA x:=by
 have hl:0<x.length:=List.length_pos_iff.2 hx;rintro⟨h1,h2,h3,h4⟩;have A:=ff x (47::y) 0 hl;rw[A]at h1 h2 h3 h4
 have hs:at_ (x++47::y) x.length=47:=by
  unfold at_;simp[List.getD]
 have hw:bW (at_ x 0)≤x.length:=by
  rcases Nat.lt_or_ge x.length (bW (at_ x 0))with h|h
  ·have:=h3 x.length h hl
   rw[hs]at this;unfold fk at this;omega
  ·exact h
 refine⟨h1,hw,fun k hk B=>?_,?_⟩
 ·have:=h3 k hk B
  rwa [ff x _ k (by omega)]at this
 ·by_cases hw:1<x.length
  ·rwa [ff x _ 1 hw]at h4
  ·unfold gQ
   omega
theorem Br (y:List UInt8):dA (47::y)∧bW (at_ (47::y) 0)=1:=by
 have e:at_ (47::y) 0=47:=rfl;have hw:bW 47=1:=by decide
 refine⟨⟨by rw[e,hw];omega,by rw[e,hw];simp,fun k hk A=>?_,?_⟩,by rw[e,hw]⟩
 ·rw[e,hw]at hk;omega
 ·rw[e,hw];unfold gQ;omega
theorem CO (n:Nat):∀x y:List UInt8,x.length≤n→aS (x++47::y)=(aS x&&aS y):=by
 induction n with
 |zero=>
  intro x y h;have:x=[]:=List.length_eq_zero_iff.1 (by omega);subst this;obtain⟨h1,D⟩:=Br y;rw[List.nil_append,eK _ (by simp),if_pos h1,D];rfl
 |succ n ih=>
  intro x y h
  by_cases B:x=[]
  ·subst B
   exact ih [] y (by simp)
  ·have hl:0<x.length:=List.length_pos_iff.2 B
   rw[eK (x++47::y) (by simp),eK x B]
   by_cases A:dA x
   ·rw[if_pos A,if_pos (yE x _ B A),ff x _ 0 hl,List.drop_append_of_le_length A.2.1]
    have:0<bW (at_ x 0):=Nat.pos_of_ne_zero A.1;exact ih _ y (by rw[List.length_drop];omega)
   ·rw[if_neg A,if_neg (fun h=>A (I5 x y B h))]
    rfl
theorem vK (x y:List UInt8):aS (x++47::y)=(aS x&&aS y):=CO _ x y (Nat.le_refl _)
def aE:List UInt8→List (List UInt8)
 |[]=>[[]]
 |b::l=>if b=47 then[]::aE l else(b::(aE l).headD [])::(aE l).tail
theorem sR (l:List UInt8):aE l≠[]:=by
 cases l with
 |nil=>simp[aE]
 |cons b l=>unfold aE;split<;>simp
theorem qf (x:List UInt8) (h:(47:UInt8)∉x):aE x=[x]:=by
 induction x with
 |nil=>rfl
 |cons b x ih=>
  have B:b≠47:=fun e=>h (by simp[e])
  rw[aE,if_neg B,ih (fun A=>h (List.mem_cons_of_mem _ A))];rfl
theorem Gm (x y:List UInt8):aE (x++47::y)=aE x++aE y:=by
 induction x with
 |nil=>simp[aE]
 |cons b x ih=>
  by_cases A:b=47
  ·subst A
   simp[aE,ih]
  ·rw[List.cons_append,aE,if_neg A,aE,if_neg A,ih]
   cases B:aE x with
   |nil=>exact absurd B (sR x)
   |cons p ps=>simp
theorem ue (l:List UInt8):∀p∈aE l,(47:UInt8)∉p:=by
 induction l with
 |nil=>simp[aE]
 |cons b l ih=>
  unfold aE
  by_cases A:b=47
  ·rw[if_pos A]
   intro p hp;rcases List.mem_cons.1 hp with rfl|hp
   ·simp
   ·exact ih p hp
  ·rw[if_neg A]
   cases B:aE l with
   |nil=>exact absurd B (sR l)
   |cons q qs=>
    rw[B]at ih;intro p hp;rcases List.mem_cons.1 hp with rfl|hp
    ·simp only[List.headD_cons]
     intro h;rcases List.mem_cons.1 h with h|h
     ·exact A h.symm
     ·exact ih q (by simp) h
    ·exact ih p (List.mem_cons_of_mem _ hp)
theorem vr (l:List UInt8):(0≤indexByte l 47→aE l=l.take (indexByte l 47).toNat::aE (l.drop ((indexByte l 47).toNat+1)))∧(¬0≤indexByte l 47→aE l=[l]):=by
 induction l with
 |nil=>exact⟨fun h=>by simp[indexByte]at h,fun _=>rfl⟩
 |cons b l ih=>
  have E:=indexByte_ge l 47
  by_cases A:b=47
  ·subst A
   have e:indexByte ((47:UInt8)::l) 47=0:=by simp[indexByte]
   rw[e];exact⟨fun _=>by simp[aE],fun h=>absurd (by omega) h⟩
  ·have B:(b==47)=false:=by simpa using A
   by_cases hi:indexByte l 47=-1
   ·have e:indexByte (b::l) 47=-1:=by simp[indexByte,B,hi]
    rw[e];refine⟨fun h=>absurd h (by omega),fun _=>?_⟩;rw[aE,if_neg A,ih.2 (by omega)];rfl
   ·have D:(indexByte l 47==-1)=false:=by simpa using hi
    have e:indexByte (b::l) 47=indexByte l 47+1:=by simp[indexByte,B,D]
    rw[e,show(indexByte l 47+1).toNat=(indexByte l 47).toNat+1 by omega];refine⟨fun _=>?_,fun h=>absurd (by omega) h⟩;rw[aE,if_neg A,ih.1 (by omega)];rfl
theorem Ci (n:Nat):∀l:List UInt8,l.length≤n→aS l=true→∀p∈aE l,aS p=true:=by
 induction n with
 |zero=>
  intro l h _ p hp;have:l=[]:=List.length_eq_zero_iff.1 (by omega);subst this;simp[aE]at hp;subst hp;rfl
 |succ n ih=>
  intro l h A p hp;obtain⟨h1,D⟩:=vr l
  by_cases hi:0≤indexByte l 47
  ·rw[h1 hi]at hp
   obtain⟨k,hk⟩:∃k:Nat,indexByte l 47=k:=⟨(indexByte l 47).toNat,by omega⟩
   obtain⟨E,B⟩:=List.getElem?_eq_some_iff.1 (indexByte_some hk).1;rw[hk]at hp
   have hs:l=l.take k++47::l.drop (k+1):=by
    rw[←B,List.getElem_cons_drop,List.take_append_drop]
   rw[hs,vK,Bool.and_eq_true]at A;rcases List.mem_cons.1 hp with rfl|hp
   ·exact A.1
   ·exact ih _ (by rw[List.length_drop];omega) A.2 p hp
  ·rw[D hi]at hp
   rcases List.mem_cons.1 hp with rfl|hp
   ·exact A
   ·cases hp
def dG (c p:List UInt8):List UInt8:=if p=[]∨p=[46]then c else if c=[]then p else c++47::p
def Fz:List UInt8→List (List UInt8)→Option (List UInt8)
 |c,[]=>some c
 |c,p::ps=>if p=[46,46]then none else Fz (dG c p) ps
def qZ:List UInt8→List (List UInt8)→Option (List UInt8)
 |c,[]=>some c
 |c,p::ps=>if p=[46,46]∨200<(dG c p).length then none else qZ (dG c p) ps
theorem Jt (c p:List UInt8):c.length≤(dG c p).length:=by
 unfold dG;split
 ·exact Nat.le_refl _
 ·split
  ·next h=>simp[h]
  ·simp
theorem Ov (ps:List (List UInt8)):∀c a,Fz c ps=some a→c.length≤a.length:=by
 induction ps with
 |nil=>intro c a h;cases h;exact Nat.le_refl _
 |cons p ps ih=>
  intro c a h;unfold Fz at h;split at h
  ·cases h
  ·exact Nat.le_trans (Jt c p) (ih _ _ h)
theorem Ow (ps:List (List UInt8)):∀c,c.length≤200→qZ c ps=(Fz c ps).bind fun a=>if a.length≤200 then some a else none:=by
 induction ps with
 |nil=>intro c h;simp[qZ,Fz,h]
 |cons p ps ih=>
  intro c h;unfold qZ Fz
  by_cases h1:p=[46,46]
  ·rw[if_pos (.inl h1),if_pos h1];rfl
  ·by_cases A:200<(dG c p).length
   ·rw[if_pos (.inr A),if_neg h1]
    cases B:Fz (dG c p) ps with
    |none=>rfl
    |some a=>
     have:=Ov ps _ _ B;rw[Option.bind_some,if_neg (by omega)]
   ·rw[if_neg (fun h=>h.elim h1 A),if_neg h1]
    exact ih _ (by omega)
def bC (T P:Int) (l:List UInt8):List UInt8 × Int:=
 if aS l=false then([],T)else if l.headD 47=47 then([],P)else
  match Fz [] (aE l)with
  |none=>([],P)
  |some a=>if a=[]∨200<a.length then([],P)else(a,0)
def dH (ps:List (List UInt8)):List (List UInt8):=ps.filter fun p=>!(p==[]||p==[46])
def aQ:List (List UInt8)→List UInt8
 |[]=>[]
 |[p]=>p
 |p::q::ps=>p++47::aQ (q::ps)
theorem CE (qs:List (List UInt8)) (p:List UInt8):qs≠[]→aQ (qs++[p])=aQ qs++47::p:=by
 induction qs with
 |nil=>intro h;exact absurd rfl h
 |cons q qs ih=>
  intro _
  cases qs with
  |nil=>rfl
  |cons r qs=>
   have:=ih (by simp);simp only[List.cons_append]at this⊢;rw[aQ,this,aQ];simp
theorem pw (qs:List (List UInt8)) (h:∀q∈qs,q≠[]):aQ qs=[]↔qs=[]:=by
 constructor
 ·intro e
  cases qs with
  |nil=>rfl
  |cons q qs=>
   cases qs with
   |nil=>exact absurd e (h q (by simp))
   |cons r qs=>simp[aQ]at e
 ·rintro rfl;rfl
theorem DI (ps:List (List UInt8)):∀q∈dH ps,q≠[]∧q≠[46]∧q∈ps:=by
 intro q B;obtain⟨h1,A⟩:=List.mem_filter.1 B;simp at A;exact⟨A.1,A.2,h1⟩
theorem Ou (ps:List (List UInt8)):∀qs:List (List UInt8),(∀q∈qs,q≠[])→
 Fz (aQ qs) ps=if[46,46]∈ps then none else some (aQ (qs++dH ps)):=by
 induction ps with
 |nil=>intro qs _;simp[Fz,dH]
 |cons p ps ih=>
  intro qs D;unfold Fz
  by_cases h1:p=[46,46]
  ·rw[if_pos h1,if_pos (by simp[h1])]
  ·rw[if_neg h1]
   have hm:([46,46]∈p::ps)↔[46,46]∈ps:=by
    rw[List.mem_cons];exact⟨fun h=>h.elim (fun e=>absurd e.symm h1) id,.inr⟩
   by_cases A:p=[]∨p=[46]
   ·have e:dG (aQ qs) p=aQ qs:=by unfold dG;rw[if_pos A]
    have k:dH (p::ps)=dH ps:=by
     unfold dH;rw[List.filter_cons,if_neg (by simpa using fun h=>A.resolve_left h)]
    rw[e,ih qs D,k];simp only[hm]
   ·have k:dH (p::ps)=p::dH ps:=by
     unfold dH;rw[List.filter_cons,if_pos (by simpa using A)]
    have e:dG (aQ qs) p=aQ (qs++[p]):=by
     unfold dG;rw[if_neg A]
     by_cases B:qs=[]
     ·subst B;rfl
     ·rw[if_neg (fun h=>B ((pw qs D).1 h)),CE qs p B]
    rw[e,ih (qs++[p]) (by
     intro q B;rcases List.mem_append.1 B with h|h
     ·exact D q h
     ·simp at h;subst h;exact fun e=>A (.inl e)),k]
    simp only[hm,List.append_assoc,List.singleton_append]
theorem FA (l:List UInt8):Fz [] (aE l)=if[46,46]∈aE l then none else some (aQ (dH (aE l))):=by
 have:=Ou (aE l) [] (by simp)
 rwa [List.nil_append]at this
theorem nK (T P:Int) (hT:T≠0) (hP:P≠0) (l a:List UInt8):bC T P l=(a,0)↔
 (aS l=true∧l.headD 47≠47∧[46,46]∉aE l∧a=aQ (dH (aE l))∧dH (aE l)≠[]∧a.length≤200):=by
 unfold bC;rw[FA];have hk:∀q∈dH (aE l),q≠[]:=fun q G=>(DI _ q G).1
 cases H:aS l with
 |false=>simp[hT]
 |true=>
  rw[if_neg (by simp)]
  by_cases A:l.headD 47=47
  ·rw[if_pos A]
   exact⟨fun h=>absurd (Prod.mk.injEq .. ▸h).2 hP,fun h=>absurd A h.2.1⟩
  ·rw[if_neg A]
   by_cases hm:[46,46]∈aE l
   ·rw[if_pos hm]
    simp[hP,hm]
   ·rw[if_neg hm]
    simp only
    by_cases B:dH (aE l)=[]
    ·rw[if_pos (.inl (by rw[B];rfl))]
     simp[hP,B]
    ·have E:aQ (dH (aE l))≠[]:=fun e=>B ((pw _ hk).1 e)
     by_cases D:200<(aQ (dH (aE l))).length
     ·rw[if_pos (.inr D)]
      constructor
      ·intro h;simp[hP]at h
      ·rintro⟨_,_,_,rfl,_,h⟩;omega
     ·rw[if_neg (fun h=>h.elim E D)]
      constructor
      ·intro h
       obtain⟨rfl,_⟩:=Prod.mk.injEq .. ▸h;exact⟨trivial,A,hm,rfl,B,by omega⟩
      ·rintro⟨_,_,_,rfl,_,_⟩;rfl
theorem Cj (qs:List (List UInt8)) (hq:qs≠[]) (h:∀q∈qs,(47:UInt8)∉q):aE (aQ qs)=qs:=by
 induction qs with
 |nil=>exact absurd rfl hq
 |cons q qs ih=>
  cases qs with
  |nil=>exact qf q (h q (by simp))
  |cons r qs=>
   rw[aQ,Gm,qf q (h q (by simp)),ih (by simp) (fun p A=>h p (List.mem_cons_of_mem _ A))];rfl
theorem GX (qs:List (List UInt8)) (h:∀q∈qs,aS q=true):aS (aQ qs)=true:=by
 induction qs with
 |nil=>rfl
 |cons q qs ih=>
  cases qs with
  |nil=>exact h q (by simp)
  |cons r qs=>
   rw[aQ,vK,h q (by simp),ih (fun p A=>h p (List.mem_cons_of_mem _ A))];rfl
theorem FJ (qs:List (List UInt8)) (hq:qs≠[]) (h:∀q∈qs,q≠[]∧(47:UInt8)∉q):(aQ qs).headD 47≠47:=by
 have first:∀q:List UInt8,q≠[]→(47:UInt8)∉q→∀z:List UInt8,(q++z).headD 47≠47:=by
  intro q hq B z
  cases q with
  |nil=>exact absurd rfl hq
  |cons b q=>exact fun e=>B (by simp at e;simp[e])
 cases qs with
 |nil=>exact absurd rfl hq
 |cons q qs=>
  obtain⟨h1,A⟩:=h q (by simp)
  cases qs with
  |nil=>
   have:=first q h1 A []
   rwa [List.append_nil]at this
  |cons r qs=>exact first q h1 A _
theorem yk (T P:Int) (hT:T≠0) (hP:P≠0) (l a:List UInt8) (h:bC T P l=(a,0)):
 ∃qs:List (List UInt8),qs≠[]∧(∀q∈qs,q≠[]∧q≠[46]∧q≠[46,46]∧(47:UInt8)∉q∧aS q=true)∧a=aQ qs∧dH (aE l)=qs∧a.length≤200∧aS l=true∧l.headD 47≠47∧[46,46]∉aE l:=by
 obtain⟨h1,D,B,E,G,H⟩:=(nK T P hT hP l a).1 h;refine⟨_,G,fun q I=>?_,E,rfl,H,h1,D,B⟩;obtain⟨J,L,A⟩:=DI _ q I;exact⟨J,L,fun e=>B (e▸A),ue l q A,Ci _ l (Nat.le_refl _) h1 q A⟩
theorem Mb (qs:List (List UInt8)) (h:∀q∈qs,q≠[]∧q≠[46]):dH qs=qs:=
 List.filter_eq_self.2 fun q A=>by simpa using h q A
theorem AV (T P:Int) (hT:T≠0) (hP:P≠0) (qs:List (List UInt8)) (x:List UInt8) (hq:qs≠[]) (h:∀q∈qs,q≠[]∧q≠[46]∧q≠[46,46]∧(47:UInt8)∉q∧aS q=true)
 (hl:(aQ qs).length≤200) (ht:aS x=true) (h0:x.headD 47≠47) (hp:∃A B,aE x=A++qs++B∧(∀p∈A,p=[]∨p=[46])∧(∀p∈B,p=[]∨p=[46])):bC T P x=(aQ qs,0):=by
 obtain⟨A,B,hp,hA,D⟩:=hp;have none_:∀C:List (List UInt8),(∀p∈C,p=[]∨p=[46])→dH C=[]:=fun C E=>List.filter_eq_nil_iff.2 fun p hp=>by simpa using fun e=>(E p hp).resolve_left e
 have hk:dH (aE x)=qs:=by
  have e:dH (aE x)=dH A++dH qs++dH B:=by rw[hp];unfold dH;rw[List.filter_append,List.filter_append]
  rw[e,none_ A hA,none_ B D,Mb qs fun q hq=>⟨(h q hq).1,(h q hq).2.1⟩];simp
 refine(nK T P hT hP x _).2 ⟨ht,h0,?_,by rw[hk],by rw[hk];exact hq,hl⟩;rw[hp];intro hm;rcases List.mem_append.1 hm with hm|hm
 ·rcases List.mem_append.1 hm with hm|hm
  ·rcases hA _ hm with e|e<;>cases e
  ·exact(h _ hm).2.2.1 rfl
 ·rcases D _ hm with e|e<;>cases e
theorem mX (T P:Int) (hT:T≠0) (hP:P≠0) (l a:List UInt8) (h:bC T P l=(a,0)):bC T P a=(a,0)∧a≠[]∧a.headD 47≠47∧a.length≤200:=by
 obtain⟨B,D,A,rfl,_,hl,_⟩:=yk T P hT hP l a h;have E:=FJ B D fun q h=>⟨(A q h).1,(A q h).2.2.2.1⟩
 refine⟨AV T P hT hP B _ D A hl (GX B fun q h=>(A q h).2.2.2.2) E ⟨[],[],by rw[Cj B D fun q h=>(A q h).2.2.2.1];simp,by simp,by simp⟩,fun e=>D ((pw B fun q h=>(A q h).1).1 e),E,hl⟩
theorem E7 (T P:Int) (l:List UInt8):bC T P l=if aS l=false then([],T)else if l.head? =some 47 then([],P)else
 match qZ [] (aE l)with
 |none=>([],P)
 |some a=>if a=[]then([],P)else(a,0):=by
 unfold bC;split
 ·rfl
 ·by_cases hl:l=[]
  ·subst hl
   simp[aE,qZ,dG]
  ·have D:l.headD 47=47↔l.head? =some 47:=by
    cases l with
    |nil=>exact absurd rfl hl
    |cons b t=>simp
   simp only[D];split
   ·rfl
   ·rw[Ow _ [] (by simp)]
    cases E:Fz [] (aE l)with
    |none=>rfl
    |some a=>
     rw[Option.bind_some]
     by_cases A:a.length≤200
     ·rw[if_pos A]
      by_cases B:a=[]
      ·simp[B]
      ·simp[B];omega
     ·rw[if_neg A]
      show(if a=[]∨200<a.length then _ else _)=_;rw[if_pos (.inr (by omega))]
def dP (T P:Int) (l:List UInt8):Int:=if aS l=false then T else if l=[]∨200<l.length then P else 0
end Path
namespace Rec
open Path
variable {k v:List UInt8} {n:Nat}
def wD (n:Nat):UInt8:=UInt8.ofNat (48+n % 10)
theorem nO (n:Nat):(wD n).toNat=48+n % 10:=by
 unfold wD;rw[UInt8.toNat_ofNat'];omega
def aG (n:Nat):List UInt8:=if n<10 then[wD n]else aG (n / 10)++[wD n]
termination_by n
decreasing_by omega
theorem dY (h:n<10):aG n=[wD n]:=by rw[aG,if_pos h]
theorem fI (h:¬n<10):aG n=aG (n / 10)++[wD n]:=by rw[aG,if_neg h]
theorem fg (n:Nat):0<(aG n).length:=by
 by_cases h:n<10
 ·rw[dY h];simp
 ·rw[fI h];simp
theorem kf (n:Nat):0<n→10 ^ ((aG n).length - 1)≤n∧n<10 ^ (aG n).length:=by
 induction n using Nat.strongRecOn with
 |ind n ih=>
  intro D
  by_cases h:n<10
  ·rw[dY h]
   simp;omega
  ·rw[fI h,List.length_append,List.length_singleton,Nat.add_sub_cancel]
   obtain⟨h1,B⟩:=ih (n / 10) (by omega) (by omega);have A:=fg (n / 10)
   have e:10 ^ (aG (n / 10)).length=10*10 ^ ((aG (n / 10)).length - 1):=by
    rw[←Nat.pow_succ',Nat.succ_eq_add_one,Nat.sub_add_cancel A]
   refine⟨by rw[e];omega,?_⟩;rw[Nat.pow_succ];omega
theorem kY {a b:Nat} (h:a≤b):(aG a).length≤(aG b).length:=by
 by_cases A:a=0
 ·subst A
  rw[dY (by omega)];exact fg b
 ·obtain⟨h1,_⟩:=kf a (by omega)
  obtain⟨_,D⟩:=kf b (by omega);have B:10 ^ ((aG a).length - 1)<10 ^ (aG b).length:=by omega
  have:=(Nat.pow_lt_pow_iff_right (by omega:1<10)).1 B;have:=fg a;omega
def gC (m:Nat):Nat:=if(aG (m+(aG m).length)).length=(aG m).length then m+(aG m).length else m+(aG m).length+1
theorem od (m:Nat):m≤gC m∧gC m≤m+(aG m).length+1:=by
 unfold gC;split<;>omega
theorem kX (n k:Nat) (hk:0<k) (h:n<10 ^ k):(aG n).length≤k:=by
 by_cases A:n=0
 ·subst A
  rw[dY (by omega)];exact hk
 ·obtain⟨h1,_⟩:=kf n (by omega)
  have:=(Nat.pow_lt_pow_iff_right (by omega:1<10)).1 (Nat.lt_of_le_of_lt h1 h);omega
theorem Mh (d:Nat):d+1<10 ^ (d+1) - 10 ^ d:=by
 induction d with
 |zero=>decide
 |succ d ih=>
  have A:10 ^ (d+1+1)=10*10 ^ (d+1):=Nat.pow_succ';have B:10 ^ (d+1)=10*10 ^ d:=Nat.pow_succ';omega
theorem sy (m:Nat) (hm:0<m):(aG (gC m)).length+m=gC m:=by
 unfold gC
 by_cases h:(aG (m+(aG m).length)).length=(aG m).length
 ·rw[if_pos h,h];omega
 ·rw[if_neg h]
  obtain⟨d,hd⟩:∃d,(aG m).length=d+1:=⟨(aG m).length - 1,by have:=fg m;omega⟩
  obtain⟨h1,A⟩:=kf m hm;rw[hd]at h h1 A⊢
  have B:(aG (m+(d+1))).length≥d+1:=by
   have:=kY (show m≤m+(d+1) by omega);omega
  have hl:=Mh (d+1);have hle:m+(d+1)+1<10 ^ (d+1+1):=by omega
  have D:=kX (m+(d+1)) (d+1+1) (by omega) (by omega);have E:=kX (m+(d+1)+1) (d+1+1) (by omega) hle;have G:=kY (show m+(d+1)≤m+(d+1)+1 by omega);omega
def aW (b:UInt8):Bool:=decide (48≤b.toNat∧b.toNat≤57)
def gh (l:List UInt8):Nat:=l.foldl (fun n b=>n*10+(b.toNat - 48)) 0
theorem G2 (l:List UInt8) (b:UInt8):gh (l++[b])=gh l*10+(b.toNat - 48):=by simp[gh]
theorem D9 (l:List UInt8) (h:∀b∈l,aW b=true):gh l<10 ^ l.length:=by
 suffices H:∀(l:List UInt8) (n k:Nat),(∀b∈l,aW b=true)→n<10 ^ k→l.foldl (fun n b=>n*10+(b.toNat - 48)) n<10 ^ (k+l.length) by
  have:=H l 0 0 h (by decide)
  rwa [Nat.zero_add]at this
 intro l
 induction l with
 |nil=>intro n k _ A;exact A
 |cons b l ih=>
  intro n k hl A;have B:=hl b (by simp);simp only[aW,decide_eq_true_eq]at B;have:=ih (n*10+(b.toNat - 48)) (k+1) (fun c hc=>hl c (List.mem_cons_of_mem _ hc)) (by rw[Nat.pow_succ];omega)
  rwa [show k+(b::l).length=k+1+l.length by rw[List.length_cons];omega]
def cJ (l:List UInt8):Option Nat:=if l.length<1∨18<l.length then none else if l.all aW then some (gh l)else none
def fQ (k v:List UInt8):Bool:=!k.contains 61&&!k.isEmpty&&aS k&&aS v&&decide (k.length+v.length≤100000)
def gy (k v:List UInt8):List UInt8:=32::k++61::v++[10]
theorem gX (k v:List UInt8):(gy k v).length=k.length+v.length+3:=by
 simp only[gy,List.length_append,List.length_cons,List.length_nil];omega
def cC (k v:List UInt8):List UInt8:=aG (gC (gy k v).length)++gy k v
theorem ob (k v:List UInt8):(cC k v).length=gC (gy k v).length:=by
 rw[cC,List.length_append];exact sy _ (by rw[gX];omega)
def fJ (l:List UInt8):Nat:=(l.takeWhile aW).length
def cW (R T:Int) (l:List UInt8):Except Int (List UInt8 × List UInt8 × Nat):=
 if fJ l<1∨7<fJ l∨l.getD 0 0=48∨fJ l=l.length∨l.getD (fJ l) 0≠32 then .error R
 else if l.length<gh (l.take (fJ l))∨gh (l.take (fJ l))<fJ l+4∨l.getD (gh (l.take (fJ l)) - 1) 0≠10 then .error R
 else
  let line:=(l.drop (fJ l+1)).take (gh (l.take (fJ l)) - 1 - (fJ l+1))
  if indexByte line 61<1 then .error R
  else if aS line=false then .error T
  else .ok (line.take (indexByte line 61).toNat,line.drop ((indexByte line 61).toNat+1),gh (l.take (fJ l)))
def fV (R T:Int):Nat→List UInt8→List (List UInt8 × List UInt8)→List (List UInt8 × List UInt8) × Int
 |0,_,acc=>(acc,0)
 |n+1,l,acc=>if l=[]then(acc,0)else match cW R T l with
  |.error e=>([],e)
  |.ok (k,v,m)=>fV R T n (l.drop m) (acc++[(k,v)])
def cu (R T:Int) (l:List UInt8):List (List UInt8 × List UInt8) × Int:=fV R T l.length l []
theorem lM {R T:Int} {l:List UInt8} {m:Nat} (h:cW R T l=.ok (k,v,m)):0<m∧m≤l.length:=by
 unfold cW at h;split at h
 ·cases h
 ·split at h
  ·cases h
  ·next A=>
   dsimp only at h
   split at h
   ·cases h
   ·split at h
    ·cases h
    ·cases h
     omega
theorem zB (R T:Int) (n:Nat):∀m l acc,l.length≤n→l.length≤m→fV R T n l acc=fV R T m l acc:=by
 induction n with
 |zero=>
  intro m l acc h _;obtain rfl:l=[]:=List.length_eq_zero_iff.1 (by omega)
  cases m<;>simp[fV]
 |succ n ih=>
  intro m l acc h1 B
  cases m with
  |zero=>
   obtain rfl:l=[]:=List.length_eq_zero_iff.1 (by omega);simp[fV]
  |succ m=>
   unfold fV
   by_cases hl:l=[]
   ·rw[if_pos hl,if_pos hl]
   ·rw[if_neg hl,if_neg hl]
    cases hs:cW R T l with
    |error e=>rfl
    |ok x=>
     obtain⟨k,v,j⟩:=x;have:=lM hs;have A:0<l.length:=List.length_pos_iff.2 hl;exact ih m _ _ (by rw[List.length_drop];omega) (by rw[List.length_drop];omega)
def gE (R T:Int) (l:List UInt8) (acc:List (List UInt8 × List UInt8)):List (List UInt8 × List UInt8) × Int:=fV R T l.length l acc
theorem oE (R T:Int) (acc:List (List UInt8 × List UInt8)):gE R T [] acc=(acc,0):=rfl
theorem jD (R T:Int) (l:List UInt8) (hl:l≠[]) (acc:List (List UInt8 × List UInt8)):gE R T l acc=match cW R T l with
 |.error e=>([],e)
 |.ok (k,v,m)=>gE R T (l.drop m) (acc++[(k,v)]):=by
 have B:0<l.length:=List.length_pos_iff.2 hl;unfold gE;obtain⟨n,A⟩:∃n,l.length=n+1:=⟨l.length - 1,by omega⟩
 rw[A,fV,if_neg hl]
 cases hs:cW R T l with
 |error e=>rfl
 |ok x=>
  obtain⟨k,v,j⟩:=x;have:=lM hs;exact zB R T _ _ _ _ (by rw[List.length_drop];omega) (Nat.le_refl _)
theorem FI (c:UInt8) (hc:0<c.toNat∧c.toNat<128) (x y:List UInt8) (hx:x≠[]):dA (x++c::y)→dA x:=by
 have hl:0<x.length:=List.length_pos_iff.2 hx;rintro⟨h1,h2,h3,h4⟩;have A:=ff x (c::y) 0 hl;rw[A]at h1 h2 h3 h4
 have hs:at_ (x++c::y) x.length=c.toNat:=by
  unfold at_;simp[List.getD]
 have hw:bW (at_ x 0)≤x.length:=by
  rcases Nat.lt_or_ge x.length (bW (at_ x 0))with h|h
  ·have:=h3 x.length h hl
   rw[hs]at this;unfold fk at this;omega
  ·exact h
 refine⟨h1,hw,fun k hk B=>?_,?_⟩
 ·have:=h3 k hk B
  rwa [ff x _ k (by omega)]at this
 ·by_cases hw:1<x.length
  ·rwa [ff x _ 1 hw]at h4
  ·unfold gQ
   omega
theorem yG (c:UInt8) (hc:0<c.toNat∧c.toNat<128) (y:List UInt8):dA (c::y)∧bW (at_ (c::y) 0)=1:=by
 have e:at_ (c::y) 0=c.toNat:=rfl;have hw:bW c.toNat=1:=by unfold bW;rw[if_neg (by omega),if_pos (by omega)]
 refine⟨⟨by rw[e,hw];omega,by rw[e,hw];simp,fun k hk A=>?_,?_⟩,by rw[e,hw]⟩
 ·rw[e,hw]at hk;omega
 ·rw[e,hw];unfold gQ;omega
theorem CN (c:UInt8) (hc:0<c.toNat∧c.toNat<128) (n:Nat):∀x y:List UInt8,x.length≤n→aS (x++c::y)=(aS x&&aS y):=by
 induction n with
 |zero=>
  intro x y h;obtain rfl:x=[]:=List.length_eq_zero_iff.1 (by omega);obtain⟨h1,D⟩:=yG c hc y;rw[List.nil_append,eK _ (by simp),if_pos h1,D];rfl
 |succ n ih=>
  intro x y h
  by_cases B:x=[]
  ·subst B
   exact ih [] y (by simp)
  ·have hl:0<x.length:=List.length_pos_iff.2 B
   rw[eK (x++c::y) (by simp),eK x B]
   by_cases A:dA x
   ·rw[if_pos A,if_pos (yE x _ B A),ff x _ 0 hl,List.drop_append_of_le_length A.2.1]
    have:0<bW (at_ x 0):=Nat.pos_of_ne_zero A.1;exact ih _ y (by rw[List.length_drop];omega)
   ·rw[if_neg A,if_neg (fun h=>A (FI c hc x y B h))]
    rfl
theorem Kw (c:UInt8) (hc:0<c.toNat∧c.toNat<128) (x y:List UInt8):aS (x++c::y)=(aS x&&aS y):=CN c hc _ x y (Nat.le_refl _)
theorem yn (n:Nat):aW (wD n)=true:=by
 unfold aW;rw[nO];simp;omega
theorem nN (n:Nat):∀b∈aG n,aW b=true:=by
 induction n using Nat.strongRecOn with
 |ind n ih=>
  by_cases h:n<10
  ·rw[dY h]
   intro b A;rw[List.mem_singleton.1 A];exact yn n
  ·rw[fI h]
   intro b A;rcases List.mem_append.1 A with h1|h1
   ·exact ih _ (by omega) b h1
   ·rw[List.mem_singleton.1 h1]
    exact yn n
theorem zO (n:Nat):gh (aG n)=n:=by
 induction n using Nat.strongRecOn with
 |ind n ih=>
  by_cases h:n<10
  ·rw[dY h]
   show 0*10+((wD n).toNat - 48)=n;rw[nO];omega
  ·rw[fI h,G2,ih _ (by omega),nO]
   omega
theorem Fc (n:Nat) (hn:0<n):(aG n).getD 0 0≠48:=by
 induction n using Nat.strongRecOn with
 |ind n ih=>
  by_cases h:n<10
  ·rw[dY h]
   intro e;have:=congrArg UInt8.toNat e;simp only[List.getD_cons_zero,nO]at this;simp at this;omega
  ·rw[fI h]
   have:=ih (n / 10) (by omega) (by omega);have A:=fg (n / 10);rw[List.getD,List.getElem?_append_left A];exact this
theorem um (d x:List UInt8) (hd:∀b∈d,aW b=true) (hx:∀b r,x=b::r→aW b=false):(d++x).takeWhile aW=d:=by
 induction d with
 |nil=>
  cases x with
  |nil=>rfl
  |cons b r=>rw[List.nil_append,List.takeWhile_cons,hx b r rfl];rfl
 |cons c d ih=>
  rw[List.cons_append,List.takeWhile_cons,hd c (by simp),if_pos rfl,ih fun b A=>hd b (List.mem_cons_of_mem _ A)]
theorem index_first (x y:List UInt8) (c:UInt8) (h:x.contains c=false):indexByte (x++c::y) c=x.length:=by
 induction x with
 |nil=>simp[indexByte]
 |cons b x ih=>
  rw[List.contains_cons,Bool.or_eq_false_iff]at h
  have A:(b==c)=false:=by
   have:=h.1;rw[beq_eq_false_iff_ne]at this⊢;exact fun e=>this e.symm
  have hi:=ih h.2;have B:(indexByte (x++c::y) c==-1)=false:=by rw[hi,beq_eq_false_iff_ne];omega
  have e:indexByte (b::(x++c::y)) c=indexByte (x++c::y) c+1:=by simp[indexByte,A,B]
  rw[List.cons_append,e,hi,List.length_cons];rfl
theorem jW (h:fQ k v=true):k.contains 61=false∧k≠[]∧aS k=true∧aS v=true∧k.length+v.length≤100000:=by
 simp only[fQ,Bool.and_eq_true,Bool.not_eq_true',decide_eq_true_eq,List.isEmpty_eq_false_iff]at h;exact⟨h.1.1.1.1,h.1.1.1.2,h.1.1.2,h.1.2,h.2⟩
theorem nh (h:fQ k v=true):∃d,cC k v=d++gy k v∧(∀b∈d,aW b=true)∧gh d=(cC k v).length∧1≤d.length∧d.length≤7∧d.getD 0 0≠48∧(cC k v).length=d.length+k.length+v.length+3:=by
 obtain⟨_,_,_,_,hl⟩:=jW h;have B:=gX k v;have D:0<(gy k v).length:=by omega
 refine⟨aG (gC (gy k v).length),rfl,nN _,by rw[zO,ob],fg _,?_,Fc _ (by have:=(od (gy k v).length).1;omega),?_⟩
 ·refine kX _ 7 (by omega) ?_
  have h1:=(od (gy k v).length).2;have A:=kX (gy k v).length 6 (by omega) (by omega);omega
 ·rw[cC,List.length_append];omega
theorem xu (R T:Int) (h:fQ k v=true) (rest:List UInt8):cW R T (cC k v++rest)=.ok (k,v,(cC k v).length):=by
 obtain⟨m1,m2,m3,m4,m5⟩:=jW h;obtain⟨d,hd,E,hval,M,L,D,hlen⟩:=nh h;have hk:0<k.length:=List.length_pos_iff.2 m2;have hl:cC k v++rest=d++(32::(k++61::v++10::rest)):=by rw[hd];simp[gy]
 have I:fJ (cC k v++rest)=d.length:=by
  unfold fJ;rw[hl,um d _ E fun b r e=>by cases e;decide]
 have B:(cC k v++rest).length=d.length+(k.length+v.length+3)+rest.length:=by rw[List.length_append,hlen];omega
 have J:(cC k v++rest).take d.length=d:=by rw[hl];exact List.take_left
 have H:(cC k v++rest).drop (d.length+1)=k++61::v++10::rest:=by
  rw[hl,←List.drop_drop,List.drop_left];rfl
 have g0:(cC k v++rest).getD 0 0=d.getD 0 0:=by
  rw[hl,List.getD,List.getElem?_append_left (by omega)];rfl
 have g1:(cC k v++rest).getD d.length 0=32:=by
  rw[hl,List.getD,List.getElem?_append_right (Nat.le_refl _),Nat.sub_self];rfl
 have A:(k++61::v).length=k.length+v.length+1:=by rw[List.length_append,List.length_cons];omega
 have g2:(cC k v++rest).getD ((cC k v).length - 1) 0=10:=by
  rw[hl,List.getD,hlen,List.getElem?_append_right (by omega),show d.length+k.length+v.length+3 - 1 - d.length=(k++61::v).length+1 by rw[A];omega,List.getElem?_cons_succ,List.getElem?_append_right (Nat.le_refl _),Nat.sub_self];rfl
 unfold cW;rw[I,J,hval,if_neg (by rw[B];rintro(e|e|e|e|e);omega;omega;exact D (g0▸e);omega;exact e g1),if_neg (by rw[B];rintro(e|e|e);omega;omega;exact e g2),H]
 have G:(k++61::v++10::rest).take ((cC k v).length - 1 - (d.length+1))=k++61::v:=by
  rw[hlen,show d.length+k.length+v.length+3 - 1 - (d.length+1)=(k++61::v).length by rw[A];omega];exact List.take_left
 rw[G]
 dsimp only
 rw[index_first k v 61 m1,if_neg (by omega),Kw 61 (by decide) k v,m3,m4,if_neg (by simp),Int.toNat_natCast,List.take_left];rw[←List.drop_drop,List.drop_left];rfl
def aI (l:List (List UInt8 × List UInt8)):List UInt8:=(l.map fun r=>cC r.1 r.2).flatten
theorem Cw (R T:Int) (l:List (List UInt8 × List UInt8)):∀(rest:List UInt8) acc,(∀r∈l,fQ r.1 r.2=true)→gE R T (aI l++rest) acc=gE R T rest (acc++l):=by
 induction l with
 |nil=>intro rest acc _;simp[aI]
 |cons r l ih=>
  intro rest acc h;have B:=h r (by simp);have e:aI (r::l)++rest=cC r.1 r.2++(aI l++rest):=by simp[aI]
  have A:cC r.1 r.2++(aI l++rest)≠[]:=by
   have E:=(od (gy r.1 r.2).length).1;have G:=gX r.1 r.2;intro e;have:=congrArg List.length e;rw[List.length_append,ob,List.length_nil]at this;omega
  rw[e,jD R T _ A,xu R T B];simp only;rw[List.drop_left,ih rest _ fun x D=>h x (List.mem_cons_of_mem _ D)];simp
end Rec
end Go.Proofs.YtdhibldkldlfpaaGreatDoor
