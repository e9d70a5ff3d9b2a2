/- Merged. -/
import Derived.Lib.ValidU
import Derived.Lib.IndexLaws
namespace Go.Proofs.YtdhibldkldlfpaaGreatDoor
namespace Path
end Path
set_option linter.unusedVariables false
open Go.Lib
namespace Path
def bt (c:Nat):Nat:=if c=0 then 0 else if c<128 then 1 else if 194≤c∧c<224 then 2 else if 224≤c∧c<240 then 3 else if 240≤c∧c<245 then 4 else 0
def at_ (l:List UInt8) (k:Nat):Nat:=(l.getD k 0).toNat
def cg (c:Nat):Prop:=128≤c∧c≤191
instance (c:Nat):Decidable (cg c):=inferInstanceAs (Decidable (_∧_))
def dx (n c b:Nat):Prop:=(n=3∧(c=224∧b<160∨c=237∧159<b))∨(n=4∧(c=240∧b<144∨c=244∧143<b))
instance (n c b:Nat):Decidable (dx n c b):=inferInstanceAs (Decidable (_∨_))
def b7 (l:List UInt8):Prop:=
 bt (at_ l 0)≠0∧bt (at_ l 0)≤l.length∧(∀k,k<bt (at_ l 0)→0<k→cg (at_ l k))∧¬dx (bt (at_ l 0)) (at_ l 0) (at_ l 1)
instance (l:List UInt8):Decidable (b7 l):=inferInstanceAs (Decidable (_∧_∧_∧_))
def jY:Nat→List UInt8→Bool
 |0,_=>true
 |n+1,l=>if l=[]then true else if b7 l then jY n (l.drop (bt (at_ l 0)))else false
def aQ (l:List UInt8):Bool:=jY l.length l
theorem Oy (c:Nat):bt c≤4:=by unfold bt;repeat' split
                              all_goals omega
theorem AL (n:Nat):∀m l,l.length≤n→l.length≤m→jY n l=jY m l:=by
 induction n with
 |zero=>
  intro m l h _;have:l=[]:=List.length_eq_zero_iff.1 (by omega);subst this
  cases m<;>simp[jY]
 |succ n ih=>
  intro m l h1 D
  cases m with
  |zero=>
   have:l=[]:=List.length_eq_zero_iff.1 (by omega);subst this;simp[jY]
  |succ m=>
   unfold jY
   by_cases hl:l=[]
   ·rw[if_pos hl,if_pos hl]
   ·rw[if_neg hl,if_neg hl]
    by_cases A:b7 l
    ·rw[if_pos A,if_pos A]
     have:0<bt (at_ l 0):=Nat.pos_of_ne_zero A.1;have B:0<l.length:=List.length_pos_iff.2 hl;exact ih m _ (by rw[List.length_drop];omega) (by rw[List.length_drop];omega)
    ·rw[if_neg A,if_neg A]
theorem pY:aQ []=true:=rfl
theorem ea (l:List UInt8) (hl:l≠[]):aQ l=if b7 l then aQ (l.drop (bt (at_ l 0)))else false:=by
 have D:0<l.length:=List.length_pos_iff.2 hl;unfold aQ;obtain⟨n,B⟩:∃n,l.length=n+1:=⟨l.length - 1,by omega⟩
 rw[B,jY,if_neg hl]
 by_cases A:b7 l
 ·rw[if_pos A,if_pos A]
  have:0<bt (at_ l 0):=Nat.pos_of_ne_zero A.1;exact AL _ _ _ (by rw[List.length_drop];omega) (Nat.le_refl _)
 ·rw[if_neg A,if_neg A]
theorem get_at (l:List UInt8) (k:Nat):((⟨l.toArray⟩:ByteArray).get! k).toNat=at_ l k:=by
 unfold at_ ByteArray.get!;simp only[Array.getElem!_eq_getD]
 by_cases h:k<l.length
 ·simp[Array.getD,List.getD,h]
 ·simp[Array.getD,List.getD,h]
  rfl
theorem Gm (l:List UInt8):decodeL l=
 (if at_ l 0<128 then(at_ l 0,1)
  else if at_ l 0 / 32=6∧(1<l.length∧at_ l 1 / 64=2)then
   (if 128≤at_ l 0 % 32*64+at_ l 1 % 64 then(at_ l 0 % 32*64+at_ l 1 % 64,2)else(65533,1))
  else if at_ l 0 / 16=14∧(1<l.length∧at_ l 1 / 64=2)∧(2<l.length∧at_ l 2 / 64=2)then
   (if 2048≤at_ l 0 % 16*4096+at_ l 1 % 64*64+at_ l 2 % 64∧Utf8.valid (at_ l 0 % 16*4096+at_ l 1 % 64*64+at_ l 2 % 64:Nat)=true then(at_ l 0 % 16*4096+at_ l 1 % 64*64+at_ l 2 % 64,3)else(65533,1))
  else if at_ l 0 / 8=30∧(1<l.length∧at_ l 1 / 64=2)∧(2<l.length∧at_ l 2 / 64=2)∧(3<l.length∧at_ l 3 / 64=2)then
   (if 65536≤at_ l 0 % 8*262144+at_ l 1 % 64*4096+at_ l 2 % 64*64+at_ l 3 % 64∧Utf8.valid (at_ l 0 % 8*262144+at_ l 1 % 64*4096+at_ l 2 % 64*64+at_ l 3 % 64:Nat)=true then(at_ l 0 % 8*262144+at_ l 1 % 64*4096+at_ l 2 % 64*64+at_ l 3 % 64,4)else(65533,1))
  else(65533,1)):=by
 unfold decodeL Utf8.decode;simp only[Nat.zero_add,get_at,show(⟨l.toArray⟩:ByteArray).size=l.length by simp[ByteArray.size],Utf8.runeError,ge_iff_le,Bool.and_eq_true,decide_eq_true_eq,beq_iff_eq,and_assoc]
theorem Eh (l:List UInt8) (k:Nat):at_ l k<256:=(l.getD k 0).toNat_lt
theorem IP (c:Nat):Utf8.valid (c:Int)=true↔(c<55296∨(57344≤c∧c≤1114111)):=by
 unfold Utf8.valid;simp only[Bool.or_eq_true,Bool.and_eq_true,decide_eq_true_eq];omega
theorem zv (l:List UInt8) (hl:l≠[]) (h0:at_ l 0≠0):
 (b7 l→¬((decodeL l).1=65533∧(decodeL l).2=1)∧(decodeL l).2=bt (at_ l 0))∧(¬b7 l→(decodeL l).1=65533∧(decodeL l).2=1):=by
 have G:0<l.length:=List.length_pos_iff.2 hl;rw[Gm];simp only[IP];have H:=Eh l 0;have I:=Eh l 1;have J:=Eh l 2;have L:=Eh l 3
 have key:b7 l↔bt (at_ l 0)≠0∧bt (at_ l 0)≤l.length∧(1<bt (at_ l 0)→cg (at_ l 1))∧(2<bt (at_ l 0)→cg (at_ l 2))∧(3<bt (at_ l 0)→cg (at_ l 3))∧¬dx (bt (at_ l 0)) (at_ l 0) (at_ l 1):=by
  have E:=Oy (at_ l 0);constructor
  ·rintro⟨h1,D,A,h5⟩
   exact⟨h1,D,fun h=>A 1 h (by omega),fun h=>A 2 h (by omega),fun h=>A 3 h (by omega),h5⟩
  ·rintro⟨h1,D,A,h5,h6,h7⟩
   refine⟨h1,D,fun k hk M=>?_,h7⟩;rcases(show k=1∨k=2∨k=3 by omega)with rfl|rfl|rfl
   ·exact A hk
   ·exact h5 hk
   ·exact h6 hk
 rw[key];generalize at_ l 0=c0 at*;generalize at_ l 1=c1 at*;generalize at_ l 2=c2 at*;generalize at_ l 3=c3 at*;generalize l.length=n at*;clear key hl
 by_cases h1:c0<128
 ·have hw:bt c0=1:=by unfold bt;rw[if_neg h0,if_pos h1]
  rw[hw,if_pos h1];unfold dx;refine⟨fun _=>⟨by simp;omega,rfl⟩,fun h=>absurd ?_ h⟩;exact⟨by omega,by omega,fun h=>by omega,fun h=>by omega,fun h=>by omega,by omega⟩
 ·rw[if_neg h1]
  by_cases D:194≤c0∧c0<224
  ·have hw:bt c0=2:=by unfold bt;rw[if_neg h0,if_neg h1,if_pos D]
   rw[hw]
   by_cases hc:1<n∧c1 / 64=2
   ·rw[if_pos ⟨by omega,hc⟩,if_pos (by omega)]
    unfold cg dx;refine⟨fun _=>⟨by simp,rfl⟩,fun h=>absurd ?_ h⟩;exact⟨by omega,by omega,fun _=>by omega,fun h=>by omega,fun h=>by omega,by omega⟩
   ·rw[if_neg (by omega),if_neg (by omega),if_neg (by omega)]
    unfold cg;refine⟨fun h=>absurd ?_ hc,fun _=>⟨rfl,rfl⟩⟩;have:=h.2.1;have:=h.2.2.1 (by omega);omega
  ·by_cases A:224≤c0∧c0<240
   ·have hw:bt c0=3:=by unfold bt;rw[if_neg h0,if_neg h1,if_neg D,if_pos A]
    rw[hw,if_neg (by omega)]
    by_cases hc:(1<n∧c1 / 64=2)∧(2<n∧c2 / 64=2)
    ·rw[if_pos ⟨by omega,hc.1,hc.2⟩]
     by_cases B:dx 3 c0 c1
     ·rw[if_neg (by unfold dx at B;omega)]
      exact⟨fun h=>absurd B h.2.2.2.2.2,fun _=>⟨rfl,rfl⟩⟩
     ·rw[if_pos (by unfold dx at B;omega)]
      refine⟨fun _=>⟨by simp,rfl⟩,fun h=>absurd ?_ h⟩;unfold cg;exact⟨by omega,by omega,fun _=>by omega,fun _=>by omega,fun h=>by omega,B⟩
    ·rw[if_neg (by omega),if_neg (by omega)]
     unfold cg;refine⟨fun h=>absurd ?_ hc,fun _=>⟨rfl,rfl⟩⟩;have:=h.2.1;have:=h.2.2.1 (by omega);have:=h.2.2.2.1 (by omega);omega
   ·by_cases E:240≤c0∧c0<245
    ·have hw:bt c0=4:=by unfold bt;rw[if_neg h0,if_neg h1,if_neg D,if_neg A,if_pos E]
     rw[hw,if_neg (by omega),if_neg (by omega)]
     by_cases hc:(1<n∧c1 / 64=2)∧(2<n∧c2 / 64=2)∧(3<n∧c3 / 64=2)
     ·rw[if_pos ⟨by omega,hc.1,hc.2.1,hc.2.2⟩]
      by_cases B:dx 4 c0 c1
      ·rw[if_neg (by unfold dx at B;omega)]
       exact⟨fun h=>absurd B h.2.2.2.2.2,fun _=>⟨rfl,rfl⟩⟩
      ·rw[if_pos (by unfold dx at B;omega)]
       refine⟨fun _=>⟨by simp,rfl⟩,fun h=>absurd ?_ h⟩;unfold cg;exact⟨by omega,by omega,fun _=>by omega,fun _=>by omega,fun _=>by omega,B⟩
     ·rw[if_neg (by omega)]
      unfold cg;refine⟨fun h=>absurd ?_ hc,fun _=>⟨rfl,rfl⟩⟩;have:=h.2.1;have:=h.2.2.1 (by omega);have:=h.2.2.2.1 (by omega);have:=h.2.2.2.2.1 (by omega);omega
    ·have hw:bt c0=0:=by unfold bt;rw[if_neg h0,if_neg h1,if_neg D,if_neg A,if_neg E]
     rw[hw];refine⟨fun h=>absurd rfl h.1,fun _=>?_⟩
     by_cases g2:c0 / 32=6∧1<n∧c1 / 64=2
     ·rw[if_pos g2,if_neg (by omega)]
      exact⟨rfl,rfl⟩
     ·rw[if_neg g2,if_neg (by omega)]
      by_cases g4:c0 / 8=30∧(1<n∧c1 / 64=2)∧(2<n∧c2 / 64=2)∧(3<n∧c3 / 64=2)
      ·rw[if_pos g4,if_neg (by omega)]
       exact⟨rfl,rfl⟩
      ·rw[if_neg g4]
       exact⟨rfl,rfl⟩
theorem yu (n:Nat):∀l:List UInt8,l.length≤n→jY n l=(validGoD n l&&!(l.contains 0)):=by
 induction n with
 |zero=>
  intro l h;have:l=[]:=List.length_eq_zero_iff.1 (by omega);subst this;rfl
 |succ n ih=>
  intro l h;unfold jY validGoD
  by_cases hl:l=[]
  ·subst hl;rfl
  ·rw[if_neg hl,if_neg hl]
   by_cases B:at_ l 0=0
   ·have hc:l.contains 0=true:=by
     cases l with
     |nil=>exact absurd rfl hl
     |cons b t=>
      have:b=0:=UInt8.toNat_inj.1 (by simpa [at_]using B);subst this;simp
    rw[hc,if_neg (fun A=>A.1 (by rw[B];rfl))];simp
   ·obtain⟨D,H⟩:=zv l hl B
    by_cases A:b7 l
    ·rw[if_pos A,if_neg (D A).1,(D A).2]
     have hw:0<bt (at_ l 0):=Nat.pos_of_ne_zero A.1;have I:0<l.length:=List.length_pos_iff.2 hl;rw[ih _ (by rw[List.length_drop];omega)]
     congr 2
     rw[Bool.eq_iff_iff];simp only[List.contains_iff_mem];constructor
     ·exact fun h=>List.mem_of_mem_drop h
     ·intro h
      rw[←List.take_append_drop (bt (at_ l 0)) l,List.mem_append]at h;rcases h with h|h
      ·obtain⟨i,hi,he⟩:=List.mem_iff_getElem.1 h
       rw[List.length_take]at hi;rw[List.getElem_take]at he;have G:at_ l i=0:=by unfold at_;rw[List.getD,List.getElem?_eq_getElem (by omega),he];rfl
       by_cases E:i=0
       ·subst E;exact absurd G B
       ·have:=A.2.2.1 i (by omega) (by omega)
        unfold cg at this;omega
      ·exact h
    ·rw[if_neg A,if_pos (H A)]
     simp
theorem uj (l:List UInt8):aQ l=(validD l&&!(l.contains 0)):=yu _ l (Nat.le_refl _)
theorem fE (x z:List UInt8) (k:Nat) (h:k<x.length):at_ (x++z) k=at_ x k:=by
 unfold at_;simp[List.getD,List.getElem?_append_left h]
theorem zu (x z:List UInt8) (hx:x≠[]):b7 x→b7 (x++z):=by
 have hl:0<x.length:=List.length_pos_iff.2 hx;rintro⟨h1,h2,h3,h4⟩;have A:=fE x z 0 hl;refine⟨by rw[A];exact h1,by rw[A,List.length_append];omega,fun k hk B=>?_,?_⟩
 ·rw[A]at hk
  rw[fE x z k (by omega)];exact h3 k hk B
 ·rw[A]
  by_cases hw:1<x.length
  ·rwa [fE x z 1 hw]
  ·unfold dx
   omega
theorem Kl (x y:List UInt8) (hx:x≠[]):b7 (x++47::y)→b7 x:=by
 have hl:0<x.length:=List.length_pos_iff.2 hx;rintro⟨h1,h2,h3,h4⟩;have A:=fE x (47::y) 0 hl;rw[A]at h1 h2 h3 h4
 have hs:at_ (x++47::y) x.length=47:=by
  unfold at_;simp[List.getD]
 have hw:bt (at_ x 0)≤x.length:=by
  rcases Nat.lt_or_ge x.length (bt (at_ x 0))with h|h
  ·have:=h3 x.length h hl
   rw[hs]at this;unfold cg at this;omega
  ·exact h
 refine⟨h1,hw,fun k hk B=>?_,?_⟩
 ·have:=h3 k hk B
  rwa [fE x _ k (by omega)]at this
 ·by_cases hw:1<x.length
  ·rwa [fE x _ 1 hw]at h4
  ·unfold dx
   omega
theorem Cs (y:List UInt8):b7 (47::y)∧bt (at_ (47::y) 0)=1:=by
 have e:at_ (47::y) 0=47:=rfl;have hw:bt 47=1:=by decide
 refine⟨⟨by rw[e,hw];omega,by rw[e,hw];simp,fun k hk A=>?_,?_⟩,by rw[e,hw]⟩
 ·rw[e,hw]at hk;omega
 ·rw[e,hw];unfold dx;omega
theorem DU (n:Nat):∀x y:List UInt8,x.length≤n→aQ (x++47::y)=(aQ x&&aQ y):=by
 induction n with
 |zero=>
  intro x y h;have:x=[]:=List.length_eq_zero_iff.1 (by omega);subst this;obtain⟨h1,D⟩:=Cs y;rw[List.nil_append,ea _ (by simp),if_pos h1,D];rfl
 |succ n ih=>
  intro x y h
  by_cases B:x=[]
  ·subst B
   exact ih [] y (by simp)
  ·have hl:0<x.length:=List.length_pos_iff.2 B
   rw[ea (x++47::y) (by simp),ea x B]
   by_cases A:b7 x
   ·rw[if_pos A,if_pos (zu x _ B A),fE x _ 0 hl,List.drop_append_of_le_length A.2.1]
    have:0<bt (at_ x 0):=Nat.pos_of_ne_zero A.1;exact ih _ y (by rw[List.length_drop];omega)
   ·rw[if_neg A,if_neg (fun h=>A (Kl x y B h))]
    rfl
theorem wV (x y:List UInt8):aQ (x++47::y)=(aQ x&&aQ y):=DU _ x y (Nat.le_refl _)
def aC:List UInt8→List (List UInt8)
 |[]=>[[]]
 |b::l=>if b=47 then[]::aC l else(b::(aC l).headD [])::(aC l).tail
theorem tG (l:List UInt8):aC l≠[]:=by
 cases l with
 |nil=>simp[aC]
 |cons b l=>unfold aC;split<;>simp
theorem jF (x:List UInt8) (h:(47:UInt8)∉x):aC x=[x]:=by
 induction x with
 |nil=>rfl
 |cons b x ih=>
  have B:b≠47:=fun e=>h (by simp[e])
  rw[aC,if_neg B,ih (fun A=>h (List.mem_cons_of_mem _ A))];rfl
theorem wu (x y:List UInt8):aC (x++47::y)=aC x++aC y:=by
 induction x with
 |nil=>simp[aC]
 |cons b x ih=>
  by_cases A:b=47
  ·subst A
   simp[aC,ih]
  ·rw[List.cons_append,aC,if_neg A,aC,if_neg A,ih]
   cases B:aC x with
   |nil=>exact absurd B (tG x)
   |cons p ps=>simp
theorem uP (l:List UInt8):∀p∈aC l,(47:UInt8)∉p:=by
 induction l with
 |nil=>simp[aC]
 |cons b l ih=>
  unfold aC
  by_cases A:b=47
  ·rw[if_pos A]
   intro p hp;rcases List.mem_cons.1 hp with rfl|hp
   ·simp
   ·exact ih p hp
  ·rw[if_neg A]
   cases B:aC l with
   |nil=>exact absurd B (tG l)
   |cons q qs=>
    rw[B]at ih;intro p hp;rcases List.mem_cons.1 hp with rfl|hp
    ·simp only[List.headD_cons]
     intro h;rcases List.mem_cons.1 h with h|h
     ·exact A h.symm
     ·exact ih q (by simp) h
    ·exact ih p (List.mem_cons_of_mem _ hp)
theorem wv (l:List UInt8):(0≤indexByte l 47→aC l=l.take (indexByte l 47).toNat::aC (l.drop ((indexByte l 47).toNat+1)))∧(¬0≤indexByte l 47→aC l=[l]):=by
 induction l with
 |nil=>exact⟨fun h=>by simp[indexByte]at h,fun _=>rfl⟩
 |cons b l ih=>
  have E:=indexByte_ge l 47
  by_cases A:b=47
  ·subst A
   have e:indexByte ((47:UInt8)::l) 47=0:=by simp[indexByte]
   rw[e];exact⟨fun _=>by simp[aC],fun h=>absurd (by omega) h⟩
  ·have B:(b==47)=false:=by simpa using A
   by_cases hi:indexByte l 47=-1
   ·have e:indexByte (b::l) 47=-1:=by simp[indexByte,B,hi]
    rw[e];refine⟨fun h=>absurd h (by omega),fun _=>?_⟩;rw[aC,if_neg A,ih.2 (by omega)];rfl
   ·have D:(indexByte l 47==-1)=false:=by simpa using hi
    have e:indexByte (b::l) 47=indexByte l 47+1:=by simp[indexByte,B,D]
    rw[e,show(indexByte l 47+1).toNat=(indexByte l 47).toNat+1 by omega];refine⟨fun _=>?_,fun h=>absurd (by omega) h⟩;rw[aC,if_neg A,ih.1 (by omega)];rfl
theorem Dp (n:Nat):∀l:List UInt8,l.length≤n→aQ l=true→∀p∈aC l,aQ p=true:=by
 induction n with
 |zero=>
  intro l h _ p hp;have:l=[]:=List.length_eq_zero_iff.1 (by omega);subst this;simp[aC]at hp;subst hp;rfl
 |succ n ih=>
  intro l h A p hp;obtain⟨h1,D⟩:=wv l
  by_cases hi:0≤indexByte l 47
  ·rw[h1 hi]at hp
   obtain⟨k,hk⟩:∃k:Nat,indexByte l 47=k:=⟨(indexByte l 47).toNat,by omega⟩
   obtain⟨E,B⟩:=List.getElem?_eq_some_iff.1 (indexByte_some hk).1;rw[hk]at hp
   have hs:l=l.take k++47::l.drop (k+1):=by
    rw[←B,List.getElem_cons_drop,List.take_append_drop]
   rw[hs,wV,Bool.and_eq_true]at A;rcases List.mem_cons.1 hp with rfl|hp
   ·exact A.1
   ·exact ih _ (by rw[List.length_drop];omega) A.2 p hp
  ·rw[D hi]at hp
   rcases List.mem_cons.1 hp with rfl|hp
   ·exact A
   ·cases hp
def bF (c p:List UInt8):List UInt8:=if p=[]∨p=[46]then c else if c=[]then p else c++47::p
def xy:List UInt8→List (List UInt8)→Option (List UInt8)
 |c,[]=>some c
 |c,p::ps=>if p=[46,46]then none else xy (bF c p) ps
def rG:List UInt8→List (List UInt8)→Option (List UInt8)
 |c,[]=>some c
 |c,p::ps=>if p=[46,46]∨200<(bF c p).length then none else rG (bF c p) ps
theorem KN (c p:List UInt8):c.length≤(bF c p).length:=by
 unfold bF;split
 ·exact Nat.le_refl _
 ·split
  ·next h=>simp[h]
  ·simp
theorem Qq (ps:List (List UInt8)):∀c a,xy c ps=some a→c.length≤a.length:=by
 induction ps with
 |nil=>intro c a h;cases h;exact Nat.le_refl _
 |cons p ps ih=>
  intro c a h;unfold xy at h;split at h
  ·cases h
  ·exact Nat.le_trans (KN c p) (ih _ _ h)
theorem Qr (ps:List (List UInt8)):∀c,c.length≤200→rG c ps=(xy c ps).bind fun a=>if a.length≤200 then some a else none:=by
 induction ps with
 |nil=>intro c h;simp[rG,xy,h]
 |cons p ps ih=>
  intro c h;unfold rG xy
  by_cases h1:p=[46,46]
  ·rw[if_pos (.inl h1),if_pos h1];rfl
  ·by_cases A:200<(bF c p).length
   ·rw[if_pos (.inr A),if_neg h1]
    cases B:xy (bF c p) ps with
    |none=>rfl
    |some a=>
     have:=Qq ps _ _ B;rw[Option.bind_some,if_neg (by omega)]
   ·rw[if_neg (fun h=>h.elim h1 A),if_neg h1]
    exact ih _ (by omega)
def bz (T P:Int) (l:List UInt8):List UInt8 × Int:=
 if aQ l=false then([],T)else if l.headD 47=47 then([],P)else
  match xy [] (aC l)with
  |none=>([],P)
  |some a=>if a=[]∨200<a.length then([],P)else(a,0)
def ef (ps:List (List UInt8)):List (List UInt8):=ps.filter fun p=>!(p==[]||p==[46])
def aW:List (List UInt8)→List UInt8
 |[]=>[]
 |[p]=>p
 |p::q::ps=>p++47::aW (q::ps)
theorem DK (qs:List (List UInt8)) (p:List UInt8):qs≠[]→aW (qs++[p])=aW qs++47::p:=by
 induction qs with
 |nil=>intro h;exact absurd rfl h
 |cons q qs ih=>
  intro _
  cases qs with
  |nil=>rfl
  |cons r qs=>
   have:=ih (by simp);simp only[List.cons_append]at this⊢;rw[aW,this,aW];simp
theorem pX (qs:List (List UInt8)) (h:∀q∈qs,q≠[]):aW qs=[]↔qs=[]:=by
 constructor
 ·intro e
  cases qs with
  |nil=>rfl
  |cons q qs=>
   cases qs with
   |nil=>exact absurd e (h q (by simp))
   |cons r qs=>simp[aW]at e
 ·rintro rfl;rfl
theorem ET (ps:List (List UInt8)):∀q∈ef ps,q≠[]∧q≠[46]∧q∈ps:=by
 intro q B;obtain⟨h1,A⟩:=List.mem_filter.1 B;simp at A;exact⟨A.1,A.2,h1⟩
theorem Qp (ps:List (List UInt8)):∀qs:List (List UInt8),(∀q∈qs,q≠[])→
 xy (aW qs) ps=if[46,46]∈ps then none else some (aW (qs++ef ps)):=by
 induction ps with
 |nil=>intro qs _;simp[xy,ef]
 |cons p ps ih=>
  intro qs D;unfold xy
  by_cases h1:p=[46,46]
  ·rw[if_pos h1,if_pos (by simp[h1])]
  ·rw[if_neg h1]
   have hm:([46,46]∈p::ps)↔[46,46]∈ps:=by
    rw[List.mem_cons];exact⟨fun h=>h.elim (fun e=>absurd e.symm h1) id,.inr⟩
   by_cases A:p=[]∨p=[46]
   ·have e:bF (aW qs) p=aW qs:=by unfold bF;rw[if_pos A]
    have k:ef (p::ps)=ef ps:=by
     unfold ef;rw[List.filter_cons,if_neg (by simpa using fun h=>A.resolve_left h)]
    rw[e,ih qs D,k];simp only[hm]
   ·have k:ef (p::ps)=p::ef ps:=by
     unfold ef;rw[List.filter_cons,if_pos (by simpa using A)]
    have e:bF (aW qs) p=aW (qs++[p]):=by
     unfold bF;rw[if_neg A]
     by_cases B:qs=[]
     ·subst B;rfl
     ·rw[if_neg (fun h=>B ((pX qs D).1 h)),DK qs p B]
    rw[e,ih (qs++[p]) (by
     intro q B;rcases List.mem_append.1 B with h|h
     ·exact D q h
     ·simp at h;subst h;exact fun e=>A (.inl e)),k]
    simp only[hm,List.append_assoc,List.singleton_append]
theorem GH (l:List UInt8):xy [] (aC l)=if[46,46]∈aC l then none else some (aW (ef (aC l))):=by
 have:=Qp (aC l) [] (by simp)
 rwa [List.nil_append]at this
theorem oo (T P:Int) (hT:T≠0) (hP:P≠0) (l a:List UInt8):bz T P l=(a,0)↔
 (aQ l=true∧l.headD 47≠47∧[46,46]∉aC l∧a=aW (ef (aC l))∧ef (aC l)≠[]∧a.length≤200):=by
 unfold bz;rw[GH];have hk:∀q∈ef (aC l),q≠[]:=fun q G=>(ET _ q G).1
 cases H:aQ l with
 |false=>simp[hT]
 |true=>
  rw[if_neg (by simp)]
  by_cases A:l.headD 47=47
  ·rw[if_pos A]
   exact⟨fun h=>absurd (Prod.mk.injEq .. ▸h).2 hP,fun h=>absurd A h.2.1⟩
  ·rw[if_neg A]
   by_cases hm:[46,46]∈aC l
   ·rw[if_pos hm]
    simp[hP,hm]
   ·rw[if_neg hm]
    simp only
    by_cases B:ef (aC l)=[]
    ·rw[if_pos (.inl (by rw[B];rfl))]
     simp[hP,B]
    ·have E:aW (ef (aC l))≠[]:=fun e=>B ((pX _ hk).1 e)
     by_cases D:200<(aW (ef (aC l))).length
     ·rw[if_pos (.inr D)]
      constructor
      ·intro h;simp[hP]at h
      ·rintro⟨_,_,_,rfl,_,h⟩;omega
     ·rw[if_neg (fun h=>h.elim E D)]
      constructor
      ·intro h
       obtain⟨rfl,_⟩:=Prod.mk.injEq .. ▸h;exact⟨trivial,A,hm,rfl,B,by omega⟩
      ·rintro⟨_,_,_,rfl,_,_⟩;rfl
theorem Dq (qs:List (List UInt8)) (hq:qs≠[]) (h:∀q∈qs,(47:UInt8)∉q):aC (aW qs)=qs:=by
 induction qs with
 |nil=>exact absurd rfl hq
 |cons q qs ih=>
  cases qs with
  |nil=>exact jF q (h q (by simp))
  |cons r qs=>
   rw[aW,wu,jF q (h q (by simp)),ih (by simp) (fun p A=>h p (List.mem_cons_of_mem _ A))];rfl
theorem IH (qs:List (List UInt8)) (h:∀q∈qs,aQ q=true):aQ (aW qs)=true:=by
 induction qs with
 |nil=>rfl
 |cons q qs ih=>
  cases qs with
  |nil=>exact h q (by simp)
  |cons r qs=>
   rw[aW,wV,h q (by simp),ih (fun p A=>h p (List.mem_cons_of_mem _ A))];rfl
theorem GR (qs:List (List UInt8)) (hq:qs≠[]) (h:∀q∈qs,q≠[]∧(47:UInt8)∉q):(aW qs).headD 47≠47:=by
 have first:∀q:List UInt8,q≠[]→(47:UInt8)∉q→∀z:List UInt8,(q++z).headD 47≠47:=by
  intro q hq B z
  cases q with
  |nil=>exact absurd rfl hq
  |cons b q=>exact fun e=>B (by simp at e;simp[e])
 cases qs with
 |nil=>exact absurd rfl hq
 |cons q qs=>
  obtain⟨h1,A⟩:=h q (by simp)
  cases qs with
  |nil=>
   have:=first q h1 A []
   rwa [List.append_nil]at this
  |cons r qs=>exact first q h1 A _
theorem za (T P:Int) (hT:T≠0) (hP:P≠0) (l a:List UInt8) (h:bz T P l=(a,0)):
 ∃qs:List (List UInt8),qs≠[]∧(∀q∈qs,q≠[]∧q≠[46]∧q≠[46,46]∧(47:UInt8)∉q∧aQ q=true)∧a=aW qs∧ef (aC l)=qs∧a.length≤200∧aQ l=true∧l.headD 47≠47∧[46,46]∉aC l:=by
 obtain⟨h1,D,B,E,G,H⟩:=(oo T P hT hP l a).1 h;refine⟨_,G,fun q I=>?_,E,rfl,H,h1,D,B⟩;obtain⟨J,L,A⟩:=ET _ q I;exact⟨J,L,fun e=>B (e▸A),uP l q A,Dp _ l (Nat.le_refl _) h1 q A⟩
theorem NM (qs:List (List UInt8)) (h:∀q∈qs,q≠[]∧q≠[46]):ef qs=qs:=
 List.filter_eq_self.2 fun q A=>by simpa using h q A
theorem B3 (T P:Int) (hT:T≠0) (hP:P≠0) (qs:List (List UInt8)) (x:List UInt8) (hq:qs≠[]) (h:∀q∈qs,q≠[]∧q≠[46]∧q≠[46,46]∧(47:UInt8)∉q∧aQ q=true)
 (hl:(aW qs).length≤200) (ht:aQ x=true) (h0:x.headD 47≠47) (hp:∃A B,aC x=A++qs++B∧(∀p∈A,p=[]∨p=[46])∧(∀p∈B,p=[]∨p=[46])):bz T P x=(aW qs,0):=by
 obtain⟨A,B,hp,hA,D⟩:=hp;have none_:∀C:List (List UInt8),(∀p∈C,p=[]∨p=[46])→ef C=[]:=fun C E=>List.filter_eq_nil_iff.2 fun p hp=>by simpa using fun e=>(E p hp).resolve_left e
 have hk:ef (aC x)=qs:=by
  have e:ef (aC x)=ef A++ef qs++ef B:=by rw[hp];unfold ef;rw[List.filter_append,List.filter_append]
  rw[e,none_ A hA,none_ B D,NM qs fun q hq=>⟨(h q hq).1,(h q hq).2.1⟩];simp
 refine(oo T P hT hP x _).2 ⟨ht,h0,?_,by rw[hk],by rw[hk];exact hq,hl⟩;rw[hp];intro hm;rcases List.mem_append.1 hm with hm|hm
 ·rcases List.mem_append.1 hm with hm|hm
  ·rcases hA _ hm with e|e<;>cases e
  ·exact(h _ hm).2.2.1 rfl
 ·rcases D _ hm with e|e<;>cases e
theorem nF (T P:Int) (hT:T≠0) (hP:P≠0) (l a:List UInt8) (h:bz T P l=(a,0)):bz T P a=(a,0)∧a≠[]∧a.headD 47≠47∧a.length≤200:=by
 obtain⟨B,D,A,rfl,_,hl,_⟩:=za T P hT hP l a h;have E:=GR B D fun q h=>⟨(A q h).1,(A q h).2.2.2.1⟩
 refine⟨B3 T P hT hP B _ D A hl (IH B fun q h=>(A q h).2.2.2.2) E ⟨[],[],by rw[Dq B D fun q h=>(A q h).2.2.2.1];simp,by simp,by simp⟩,fun e=>D ((pX B fun q h=>(A q h).1).1 e),E,hl⟩
theorem Gg (T P:Int) (l:List UInt8):bz T P l=if aQ l=false then([],T)else if l.head? =some 47 then([],P)else
 match rG [] (aC l)with
 |none=>([],P)
 |some a=>if a=[]then([],P)else(a,0):=by
 unfold bz;split
 ·rfl
 ·by_cases hl:l=[]
  ·subst hl
   simp[aC,rG,bF]
  ·have D:l.headD 47=47↔l.head? =some 47:=by
    cases l with
    |nil=>exact absurd rfl hl
    |cons b t=>simp
   simp only[D];split
   ·rfl
   ·rw[Qr _ [] (by simp)]
    cases E:xy [] (aC l)with
    |none=>rfl
    |some a=>
     rw[Option.bind_some]
     by_cases A:a.length≤200
     ·rw[if_pos A]
      by_cases B:a=[]
      ·simp[B]
      ·simp[B];omega
     ·rw[if_neg A]
      show(if a=[]∨200<a.length then _ else _)=_;rw[if_pos (.inr (by omega))]
def cY (T P:Int) (l:List UInt8):Int:=if aQ l=false then T else if l=[]∨200<l.length then P else 0
end Path
namespace Rec
open Path
variable {k v:List UInt8} {n:Nat}
def xr (n:Nat):UInt8:=UInt8.ofNat (48+n % 10)
theorem ox (n:Nat):(xr n).toNat=48+n % 10:=by
 unfold xr;rw[UInt8.toNat_ofNat'];omega
def aJ (n:Nat):List UInt8:=if n<10 then[xr n]else aJ (n / 10)++[xr n]
termination_by n
decreasing_by omega
theorem eD (h:n<10):aJ n=[xr n]:=by rw[aJ,if_pos h]
theorem gj (h:¬n<10):aJ n=aJ (n / 10)++[xr n]:=by rw[aJ,if_neg h]
theorem fF (n:Nat):0<(aJ n).length:=by
 by_cases h:n<10
 ·rw[eD h];simp
 ·rw[gj h];simp
theorem kC (n:Nat):0<n→10 ^ ((aJ n).length - 1)≤n∧n<10 ^ (aJ n).length:=by
 induction n using Nat.strongRecOn with
 |ind n ih=>
  intro D
  by_cases h:n<10
  ·rw[eD h]
   simp;omega
  ·rw[gj h,List.length_append,List.length_singleton,Nat.add_sub_cancel]
   obtain⟨h1,B⟩:=ih (n / 10) (by omega) (by omega);have A:=fF (n / 10)
   have e:10 ^ (aJ (n / 10)).length=10*10 ^ ((aJ (n / 10)).length - 1):=by
    rw[←Nat.pow_succ',Nat.succ_eq_add_one,Nat.sub_add_cancel A]
   refine⟨by rw[e];omega,?_⟩;rw[Nat.pow_succ];omega
theorem lJ {a b:Nat} (h:a≤b):(aJ a).length≤(aJ b).length:=by
 by_cases A:a=0
 ·subst A
  rw[eD (by omega)];exact fF b
 ·obtain⟨h1,_⟩:=kC a (by omega)
  obtain⟨_,D⟩:=kC b (by omega);have B:10 ^ ((aJ a).length - 1)<10 ^ (aJ b).length:=by omega
  have:=(Nat.pow_lt_pow_iff_right (by omega:1<10)).1 B;have:=fF a;omega
def gT (m:Nat):Nat:=if(aJ (m+(aJ m).length)).length=(aJ m).length then m+(aJ m).length else m+(aJ m).length+1
theorem oN (m:Nat):m≤gT m∧gT m≤m+(aJ m).length+1:=by
 unfold gT;split<;>omega
theorem lI (n k:Nat) (hk:0<k) (h:n<10 ^ k):(aJ n).length≤k:=by
 by_cases A:n=0
 ·subst A
  rw[eD (by omega)];exact hk
 ·obtain⟨h1,_⟩:=kC n (by omega)
  have:=(Nat.pow_lt_pow_iff_right (by omega:1<10)).1 (Nat.lt_of_le_of_lt h1 h);omega
theorem NT (d:Nat):d+1<10 ^ (d+1) - 10 ^ d:=by
 induction d with
 |zero=>decide
 |succ d ih=>
  have A:10 ^ (d+1+1)=10*10 ^ (d+1):=Nat.pow_succ';have B:10 ^ (d+1)=10*10 ^ d:=Nat.pow_succ';omega
theorem tj (m:Nat) (hm:0<m):(aJ (gT m)).length+m=gT m:=by
 unfold gT
 by_cases h:(aJ (m+(aJ m).length)).length=(aJ m).length
 ·rw[if_pos h,h];omega
 ·rw[if_neg h]
  obtain⟨d,hd⟩:∃d,(aJ m).length=d+1:=⟨(aJ m).length - 1,by have:=fF m;omega⟩
  obtain⟨h1,A⟩:=kC m hm;rw[hd]at h h1 A⊢
  have B:(aJ (m+(d+1))).length≥d+1:=by
   have:=lJ (show m≤m+(d+1) by omega);omega
  have hl:=NT (d+1);have hle:m+(d+1)+1<10 ^ (d+1+1):=by omega
  have D:=lI (m+(d+1)) (d+1+1) (by omega) (by omega);have E:=lI (m+(d+1)+1) (d+1+1) (by omega) hle;have G:=lJ (show m+(d+1)≤m+(d+1)+1 by omega);omega
def bk (b:UInt8):Bool:=decide (48≤b.toNat∧b.toNat≤57)
def gI (l:List UInt8):Nat:=l.foldl (fun n b=>n*10+(b.toNat - 48)) 0
theorem IM (l:List UInt8) (b:UInt8):gI (l++[b])=gI l*10+(b.toNat - 48):=by simp[gI]
theorem Fs (l:List UInt8) (h:∀b∈l,bk b=true):gI l<10 ^ l.length:=by
 suffices H:∀(l:List UInt8) (n k:Nat),(∀b∈l,bk b=true)→n<10 ^ k→l.foldl (fun n b=>n*10+(b.toNat - 48)) n<10 ^ (k+l.length) by
  have:=H l 0 0 h (by decide)
  rwa [Nat.zero_add]at this
 intro l
 induction l with
 |nil=>intro n k _ A;exact A
 |cons b l ih=>
  intro n k hl A;have B:=hl b (by simp);simp only[bk,decide_eq_true_eq]at B;have:=ih (n*10+(b.toNat - 48)) (k+1) (fun c hc=>hl c (List.mem_cons_of_mem _ hc)) (by rw[Nat.pow_succ];omega)
  rwa [show k+(b::l).length=k+1+l.length by rw[List.length_cons];omega]
def dd (l:List UInt8):Option Nat:=if l.length<1∨18<l.length then none else if l.all bk then some (gI l)else none
def gw (k v:List UInt8):Bool:=!k.contains 61&&!k.isEmpty&&aQ k&&aQ v&&decide (k.length+v.length≤100000)
def gN (k v:List UInt8):List UInt8:=32::k++61::v++[10]
theorem iz (k v:List UInt8):(gN k v).length=k.length+v.length+3:=by
 simp only[gN,List.length_append,List.length_cons,List.length_nil];omega
def cP (k v:List UInt8):List UInt8:=aJ (gT (gN k v).length)++gN k v
theorem oM (k v:List UInt8):(cP k v).length=gT (gN k v).length:=by
 rw[cP,List.length_append];exact tj _ (by rw[iz];omega)
def gm (l:List UInt8):Nat:=(l.takeWhile bk).length
def dA (R T:Int) (l:List UInt8):Except Int (List UInt8 × List UInt8 × Nat):=
 if gm l<1∨7<gm l∨l.getD 0 0=48∨gm l=l.length∨l.getD (gm l) 0≠32 then .error R
 else if l.length<gI (l.take (gm l))∨gI (l.take (gm l))<gm l+4∨l.getD (gI (l.take (gm l)) - 1) 0≠10 then .error R
 else
  let line:=(l.drop (gm l+1)).take (gI (l.take (gm l)) - 1 - (gm l+1))
  if indexByte line 61<1 then .error R
  else if aQ line=false then .error T
  else .ok (line.take (indexByte line 61).toNat,line.drop ((indexByte line 61).toNat+1),gI (l.take (gm l)))
def gD (R T:Int):Nat→List UInt8→List (List UInt8 × List UInt8)→List (List UInt8 × List UInt8) × Int
 |0,_,acc=>(acc,0)
 |n+1,l,acc=>if l=[]then(acc,0)else match dA R T l with
  |.error e=>([],e)
  |.ok (k,v,m)=>gD R T n (l.drop m) (acc++[(k,v)])
def cG (R T:Int) (l:List UInt8):List (List UInt8 × List UInt8) × Int:=gD R T l.length l []
theorem mi {R T:Int} {l:List UInt8} {m:Nat} (h:dA R T l=.ok (k,v,m)):0<m∧m≤l.length:=by
 unfold dA at h;split at h
 ·cases h
 ·split at h
  ·cases h
  ·next A=>
   dsimp only at h
   split at h
   ·cases h
   ·split at h
    ·cases h
    ·cases h
     omega
theorem Ay (R T:Int) (n:Nat):∀m l acc,l.length≤n→l.length≤m→gD R T n l acc=gD R T m l acc:=by
 induction n with
 |zero=>
  intro m l acc h _;obtain rfl:l=[]:=List.length_eq_zero_iff.1 (by omega)
  cases m<;>simp[gD]
 |succ n ih=>
  intro m l acc h1 B
  cases m with
  |zero=>
   obtain rfl:l=[]:=List.length_eq_zero_iff.1 (by omega);simp[gD]
  |succ m=>
   unfold gD
   by_cases hl:l=[]
   ·rw[if_pos hl,if_pos hl]
   ·rw[if_neg hl,if_neg hl]
    cases hs:dA R T l with
    |error e=>rfl
    |ok x=>
     obtain⟨k,v,j⟩:=x;have:=mi hs;have A:0<l.length:=List.length_pos_iff.2 hl;exact ih m _ _ (by rw[List.length_drop];omega) (by rw[List.length_drop];omega)
def gW (R T:Int) (l:List UInt8) (acc:List (List UInt8 × List UInt8)):List (List UInt8 × List UInt8) × Int:=gD R T l.length l acc
theorem o4 (R T:Int) (acc:List (List UInt8 × List UInt8)):gW R T [] acc=(acc,0):=rfl
theorem jX (R T:Int) (l:List UInt8) (hl:l≠[]) (acc:List (List UInt8 × List UInt8)):gW R T l acc=match dA R T l with
 |.error e=>([],e)
 |.ok (k,v,m)=>gW R T (l.drop m) (acc++[(k,v)]):=by
 have B:0<l.length:=List.length_pos_iff.2 hl;unfold gW;obtain⟨n,A⟩:∃n,l.length=n+1:=⟨l.length - 1,by omega⟩
 rw[A,gD,if_neg hl]
 cases hs:dA R T l with
 |error e=>rfl
 |ok x=>
  obtain⟨k,v,j⟩:=x;have:=mi hs;exact Ay R T _ _ _ _ (by rw[List.length_drop];omega) (Nat.le_refl _)
theorem GQ (c:UInt8) (hc:0<c.toNat∧c.toNat<128) (x y:List UInt8) (hx:x≠[]):b7 (x++c::y)→b7 x:=by
 have hl:0<x.length:=List.length_pos_iff.2 hx;rintro⟨h1,h2,h3,h4⟩;have A:=fE x (c::y) 0 hl;rw[A]at h1 h2 h3 h4
 have hs:at_ (x++c::y) x.length=c.toNat:=by
  unfold at_;simp[List.getD]
 have hw:bt (at_ x 0)≤x.length:=by
  rcases Nat.lt_or_ge x.length (bt (at_ x 0))with h|h
  ·have:=h3 x.length h hl
   rw[hs]at this;unfold cg at this;omega
  ·exact h
 refine⟨h1,hw,fun k hk B=>?_,?_⟩
 ·have:=h3 k hk B
  rwa [fE x _ k (by omega)]at this
 ·by_cases hw:1<x.length
  ·rwa [fE x _ 1 hw]at h4
  ·unfold dx
   omega
theorem zw (c:UInt8) (hc:0<c.toNat∧c.toNat<128) (y:List UInt8):b7 (c::y)∧bt (at_ (c::y) 0)=1:=by
 have e:at_ (c::y) 0=c.toNat:=rfl;have hw:bt c.toNat=1:=by unfold bt;rw[if_neg (by omega),if_pos (by omega)]
 refine⟨⟨by rw[e,hw];omega,by rw[e,hw];simp,fun k hk A=>?_,?_⟩,by rw[e,hw]⟩
 ·rw[e,hw]at hk;omega
 ·rw[e,hw];unfold dx;omega
theorem DT (c:UInt8) (hc:0<c.toNat∧c.toNat<128) (n:Nat):∀x y:List UInt8,x.length≤n→aQ (x++c::y)=(aQ x&&aQ y):=by
 induction n with
 |zero=>
  intro x y h;obtain rfl:x=[]:=List.length_eq_zero_iff.1 (by omega);obtain⟨h1,D⟩:=zw c hc y;rw[List.nil_append,ea _ (by simp),if_pos h1,D];rfl
 |succ n ih=>
  intro x y h
  by_cases B:x=[]
  ·subst B
   exact ih [] y (by simp)
  ·have hl:0<x.length:=List.length_pos_iff.2 B
   rw[ea (x++c::y) (by simp),ea x B]
   by_cases A:b7 x
   ·rw[if_pos A,if_pos (zu x _ B A),fE x _ 0 hl,List.drop_append_of_le_length A.2.1]
    have:0<bt (at_ x 0):=Nat.pos_of_ne_zero A.1;exact ih _ y (by rw[List.length_drop];omega)
   ·rw[if_neg A,if_neg (fun h=>A (GQ c hc x y B h))]
    rfl
theorem LY (c:UInt8) (hc:0<c.toNat∧c.toNat<128) (x y:List UInt8):aQ (x++c::y)=(aQ x&&aQ y):=DT c hc _ x y (Nat.le_refl _)
theorem zd (n:Nat):bk (xr n)=true:=by
 unfold bk;rw[ox];simp;omega
theorem ow (n:Nat):∀b∈aJ n,bk b=true:=by
 induction n using Nat.strongRecOn with
 |ind n ih=>
  by_cases h:n<10
  ·rw[eD h]
   intro b A;rw[List.mem_singleton.1 A];exact zd n
  ·rw[gj h]
   intro b A;rcases List.mem_append.1 A with h1|h1
   ·exact ih _ (by omega) b h1
   ·rw[List.mem_singleton.1 h1]
    exact zd n
theorem AP (n:Nat):gI (aJ n)=n:=by
 induction n using Nat.strongRecOn with
 |ind n ih=>
  by_cases h:n<10
  ·rw[eD h]
   show 0*10+((xr n).toNat - 48)=n;rw[ox];omega
  ·rw[gj h,IM,ih _ (by omega),ox]
   omega
theorem Gl (n:Nat) (hn:0<n):(aJ n).getD 0 0≠48:=by
 induction n using Nat.strongRecOn with
 |ind n ih=>
  by_cases h:n<10
  ·rw[eD h]
   intro e;have:=congrArg UInt8.toNat e;simp only[List.getD_cons_zero,ox]at this;simp at this;omega
  ·rw[gj h]
   have:=ih (n / 10) (by omega) (by omega);have A:=fF (n / 10);rw[List.getD,List.getElem?_append_left A];exact this
theorem uV (d x:List UInt8) (hd:∀b∈d,bk b=true) (hx:∀b r,x=b::r→bk b=false):(d++x).takeWhile bk=d:=by
 induction d with
 |nil=>
  cases x with
  |nil=>rfl
  |cons b r=>rw[List.nil_append,List.takeWhile_cons,hx b r rfl];rfl
 |cons c d ih=>
  rw[List.cons_append,List.takeWhile_cons,hd c (by simp),if_pos rfl,ih fun b A=>hd b (List.mem_cons_of_mem _ A)]
theorem index_first (x y:List UInt8) (c:UInt8) (h:x.contains c=false):indexByte (x++c::y) c=x.length:=by
 induction x with
 |nil=>simp[indexByte]
 |cons b x ih=>
  rw[List.contains_cons,Bool.or_eq_false_iff]at h
  have A:(b==c)=false:=by
   have:=h.1;rw[beq_eq_false_iff_ne]at this⊢;exact fun e=>this e.symm
  have hi:=ih h.2;have B:(indexByte (x++c::y) c==-1)=false:=by rw[hi,beq_eq_false_iff_ne];omega
  have e:indexByte (b::(x++c::y)) c=indexByte (x++c::y) c+1:=by simp[indexByte,A,B]
  rw[List.cons_append,e,hi,List.length_cons];rfl
theorem kg (h:gw k v=true):k.contains 61=false∧k≠[]∧aQ k=true∧aQ v=true∧k.length+v.length≤100000:=by
 simp only[gw,Bool.and_eq_true,Bool.not_eq_true',decide_eq_true_eq,List.isEmpty_eq_false_iff]at h;exact⟨h.1.1.1.1,h.1.1.1.2,h.1.1.2,h.1.2,h.2⟩
theorem nK (h:gw k v=true):∃d,cP k v=d++gN k v∧(∀b∈d,bk b=true)∧gI d=(cP k v).length∧1≤d.length∧d.length≤7∧d.getD 0 0≠48∧(cP k v).length=d.length+k.length+v.length+3:=by
 obtain⟨_,_,_,_,hl⟩:=kg h;have B:=iz k v;have D:0<(gN k v).length:=by omega
 refine⟨aJ (gT (gN k v).length),rfl,ow _,by rw[AP,oM],fF _,?_,Gl _ (by have:=(oN (gN k v).length).1;omega),?_⟩
 ·refine lI _ 7 (by omega) ?_
  have h1:=(oN (gN k v).length).2;have A:=lI (gN k v).length 6 (by omega) (by omega);omega
 ·rw[cP,List.length_append];omega
theorem yl (R T:Int) (h:gw k v=true) (rest:List UInt8):dA R T (cP k v++rest)=.ok (k,v,(cP k v).length):=by
 obtain⟨m1,m2,m3,m4,m5⟩:=kg h;obtain⟨d,hd,E,hval,M,L,D,hlen⟩:=nK h;have hk:0<k.length:=List.length_pos_iff.2 m2;have hl:cP k v++rest=d++(32::(k++61::v++10::rest)):=by rw[hd];simp[gN]
 have I:gm (cP k v++rest)=d.length:=by
  unfold gm;rw[hl,uV d _ E fun b r e=>by cases e;decide]
 have B:(cP k v++rest).length=d.length+(k.length+v.length+3)+rest.length:=by rw[List.length_append,hlen];omega
 have J:(cP k v++rest).take d.length=d:=by rw[hl];exact List.take_left
 have H:(cP k v++rest).drop (d.length+1)=k++61::v++10::rest:=by
  rw[hl,←List.drop_drop,List.drop_left];rfl
 have g0:(cP k v++rest).getD 0 0=d.getD 0 0:=by
  rw[hl,List.getD,List.getElem?_append_left (by omega)];rfl
 have g1:(cP k v++rest).getD d.length 0=32:=by
  rw[hl,List.getD,List.getElem?_append_right (Nat.le_refl _),Nat.sub_self];rfl
 have A:(k++61::v).length=k.length+v.length+1:=by rw[List.length_append,List.length_cons];omega
 have g2:(cP k v++rest).getD ((cP k v).length - 1) 0=10:=by
  rw[hl,List.getD,hlen,List.getElem?_append_right (by omega),show d.length+k.length+v.length+3 - 1 - d.length=(k++61::v).length+1 by rw[A];omega,List.getElem?_cons_succ,List.getElem?_append_right (Nat.le_refl _),Nat.sub_self];rfl
 unfold dA;rw[I,J,hval,if_neg (by rw[B];rintro(e|e|e|e|e);omega;omega;exact D (g0▸e);omega;exact e g1),if_neg (by rw[B];rintro(e|e|e);omega;omega;exact e g2),H]
 have G:(k++61::v++10::rest).take ((cP k v).length - 1 - (d.length+1))=k++61::v:=by
  rw[hlen,show d.length+k.length+v.length+3 - 1 - (d.length+1)=(k++61::v).length by rw[A];omega];exact List.take_left
 rw[G]
 dsimp only
 rw[index_first k v 61 m1,if_neg (by omega),LY 61 (by decide) k v,m3,m4,if_neg (by simp),Int.toNat_natCast,List.take_left];rw[←List.drop_drop,List.drop_left];rfl
def aN (l:List (List UInt8 × List UInt8)):List UInt8:=(l.map fun r=>cP r.1 r.2).flatten
theorem DD (R T:Int) (l:List (List UInt8 × List UInt8)):∀(rest:List UInt8) acc,(∀r∈l,gw r.1 r.2=true)→gW R T (aN l++rest) acc=gW R T rest (acc++l):=by
 induction l with
 |nil=>intro rest acc _;simp[aN]
 |cons r l ih=>
  intro rest acc h;have B:=h r (by simp);have e:aN (r::l)++rest=cP r.1 r.2++(aN l++rest):=by simp[aN]
  have A:cP r.1 r.2++(aN l++rest)≠[]:=by
   have E:=(oN (gN r.1 r.2).length).1;have G:=iz r.1 r.2;intro e;have:=congrArg List.length e;rw[List.length_append,oM,List.length_nil]at this;omega
  rw[e,jX R T _ A,yl R T B];simp only;rw[List.drop_left,ih rest _ fun x D=>h x (List.mem_cons_of_mem _ D)];simp
end Rec
end Go.Proofs.YtdhibldkldlfpaaGreatDoor
