/- Merged. -/
import Derived.Lib.ValidU
import Derived.Lib.IndexLaws
namespace Go.Proofs.YtdhibldkldlfpaaGreatDoor
namespace Path
end Path
set_option linter.unusedVariables false
open Go.Lib
namespace Path
def bP (c:Nat):Nat:=if c=0 then 0 else if c<128 then 1 else if 194≤c∧c<224 then 2 else if 224≤c∧c<240 then 3 else if 240≤c∧c<245 then 4 else 0
def at_ (l:List UInt8) (k:Nat):Nat:=(l.getD k 0).toNat
def cO (c:Nat):Prop:=128≤c∧c≤191
instance (c:Nat):Decidable (cO c):=inferInstanceAs (Decidable (_∧_))
def et (n c b:Nat):Prop:=(n=3∧(c=224∧b<160∨c=237∧159<b))∨(n=4∧(c=240∧b<144∨c=244∧143<b))
instance (n c b:Nat):Decidable (et n c b):=inferInstanceAs (Decidable (_∨_))
def cI (l:List UInt8):Prop:=
 bP (at_ l 0)≠0∧bP (at_ l 0)≤l.length∧(∀k,k<bP (at_ l 0)→0<k→cO (at_ l k))∧¬et (bP (at_ l 0)) (at_ l 0) (at_ l 1)
instance (l:List UInt8):Decidable (cI l):=inferInstanceAs (Decidable (_∧_∧_∧_))
def lg:Nat→List UInt8→Bool
 |0,_=>true
 |n+1,l=>if l=[]then true else if cI l then lg n (l.drop (bP (at_ l 0)))else false
def aZ (l:List UInt8):Bool:=lg l.length l
theorem Tn (c:Nat):bP c≤4:=by unfold bP;repeat' split
                              all_goals omega
theorem DM (n:Nat):∀m l,l.length≤n→l.length≤m→lg n l=lg m l:=by
 induction n with
 |zero=>
  intro m l h _;have:l=[]:=List.length_eq_zero_iff.1 (by omega);subst this
  cases m<;>simp[lg]
 |succ n ih=>
  intro m l h1 D
  cases m with
  |zero=>
   have:l=[]:=List.length_eq_zero_iff.1 (by omega);subst this;simp[lg]
  |succ m=>
   unfold lg
   by_cases hl:l=[]
   ·rw[if_pos hl,if_pos hl]
   ·rw[if_neg hl,if_neg hl]
    by_cases A:cI l
    ·rw[if_pos A,if_pos A]
     have:0<bP (at_ l 0):=Nat.pos_of_ne_zero A.1;have B:0<l.length:=List.length_pos_iff.2 hl;exact ih m _ (by rw[List.length_drop];omega) (by rw[List.length_drop];omega)
    ·rw[if_neg A,if_neg A]
theorem sg:aZ []=true:=rfl
theorem eZ (l:List UInt8) (hl:l≠[]):aZ l=if cI l then aZ (l.drop (bP (at_ l 0)))else false:=by
 have D:0<l.length:=List.length_pos_iff.2 hl;unfold aZ;obtain⟨n,B⟩:∃n,l.length=n+1:=⟨l.length - 1,by omega⟩
 rw[B,lg,if_neg hl]
 by_cases A:cI l
 ·rw[if_pos A,if_pos A]
  have:0<bP (at_ l 0):=Nat.pos_of_ne_zero A.1;exact DM _ _ _ (by rw[List.length_drop];omega) (Nat.le_refl _)
 ·rw[if_neg A,if_neg A]
theorem get_at (l:List UInt8) (k:Nat):((⟨l.toArray⟩:ByteArray).get! k).toNat=at_ l k:=by
 unfold at_ ByteArray.get!;simp only[Array.getElem!_eq_getD]
 by_cases h:k<l.length
 ·simp[Array.getD,List.getD,h]
 ·simp[Array.getD,List.getD,h]
  rfl
theorem Kg (l:List UInt8):decodeL l=
 (if at_ l 0<128 then(at_ l 0,1)
  else if at_ l 0 / 32=6∧(1<l.length∧at_ l 1 / 64=2)then
   (if 128≤at_ l 0 % 32*64+at_ l 1 % 64 then(at_ l 0 % 32*64+at_ l 1 % 64,2)else(65533,1))
  else if at_ l 0 / 16=14∧(1<l.length∧at_ l 1 / 64=2)∧(2<l.length∧at_ l 2 / 64=2)then
   (if 2048≤at_ l 0 % 16*4096+at_ l 1 % 64*64+at_ l 2 % 64∧Utf8.valid (at_ l 0 % 16*4096+at_ l 1 % 64*64+at_ l 2 % 64:Nat)=true then(at_ l 0 % 16*4096+at_ l 1 % 64*64+at_ l 2 % 64,3)else(65533,1))
  else if at_ l 0 / 8=30∧(1<l.length∧at_ l 1 / 64=2)∧(2<l.length∧at_ l 2 / 64=2)∧(3<l.length∧at_ l 3 / 64=2)then
   (if 65536≤at_ l 0 % 8*262144+at_ l 1 % 64*4096+at_ l 2 % 64*64+at_ l 3 % 64∧Utf8.valid (at_ l 0 % 8*262144+at_ l 1 % 64*4096+at_ l 2 % 64*64+at_ l 3 % 64:Nat)=true then(at_ l 0 % 8*262144+at_ l 1 % 64*4096+at_ l 2 % 64*64+at_ l 3 % 64,4)else(65533,1))
  else(65533,1)):=by
 unfold decodeL Utf8.decode;simp only[Nat.zero_add,get_at,show(⟨l.toArray⟩:ByteArray).size=l.length by simp[ByteArray.size],Utf8.runeError,ge_iff_le,Bool.and_eq_true,decide_eq_true_eq,beq_iff_eq,and_assoc]
theorem Hw (l:List UInt8) (k:Nat):at_ l k<256:=(l.getD k 0).toNat_lt
theorem Mv (c:Nat):Utf8.valid (c:Int)=true↔(c<55296∨(57344≤c∧c≤1114111)):=by
 unfold Utf8.valid;simp only[Bool.or_eq_true,Bool.and_eq_true,decide_eq_true_eq];omega
theorem Cm (l:List UInt8) (hl:l≠[]) (h0:at_ l 0≠0):
 (cI l→¬((decodeL l).1=65533∧(decodeL l).2=1)∧(decodeL l).2=bP (at_ l 0))∧(¬cI l→(decodeL l).1=65533∧(decodeL l).2=1):=by
 have G:0<l.length:=List.length_pos_iff.2 hl;rw[Kg];simp only[Mv];have H:=Hw l 0;have I:=Hw l 1;have J:=Hw l 2;have L:=Hw l 3
 have key:cI l↔bP (at_ l 0)≠0∧bP (at_ l 0)≤l.length∧(1<bP (at_ l 0)→cO (at_ l 1))∧(2<bP (at_ l 0)→cO (at_ l 2))∧(3<bP (at_ l 0)→cO (at_ l 3))∧¬et (bP (at_ l 0)) (at_ l 0) (at_ l 1):=by
  have E:=Tn (at_ l 0);constructor
  ·rintro⟨h1,D,A,h5⟩
   exact⟨h1,D,fun h=>A 1 h (by omega),fun h=>A 2 h (by omega),fun h=>A 3 h (by omega),h5⟩
  ·rintro⟨h1,D,A,h5,h6,h7⟩
   refine⟨h1,D,fun k hk M=>?_,h7⟩;rcases(show k=1∨k=2∨k=3 by omega)with rfl|rfl|rfl
   ·exact A hk
   ·exact h5 hk
   ·exact h6 hk
 rw[key];generalize at_ l 0=c0 at*;generalize at_ l 1=c1 at*;generalize at_ l 2=c2 at*;generalize at_ l 3=c3 at*;generalize l.length=n at*;clear key hl
 by_cases h1:c0<128
 ·have hw:bP c0=1:=by unfold bP;rw[if_neg h0,if_pos h1]
  rw[hw,if_pos h1];unfold et;refine⟨fun _=>⟨by simp;omega,rfl⟩,fun h=>absurd ?_ h⟩;exact⟨by omega,by omega,fun h=>by omega,fun h=>by omega,fun h=>by omega,by omega⟩
 ·rw[if_neg h1]
  by_cases D:194≤c0∧c0<224
  ·have hw:bP c0=2:=by unfold bP;rw[if_neg h0,if_neg h1,if_pos D]
   rw[hw]
   by_cases hc:1<n∧c1 / 64=2
   ·rw[if_pos ⟨by omega,hc⟩,if_pos (by omega)]
    unfold cO et;refine⟨fun _=>⟨by simp,rfl⟩,fun h=>absurd ?_ h⟩;exact⟨by omega,by omega,fun _=>by omega,fun h=>by omega,fun h=>by omega,by omega⟩
   ·rw[if_neg (by omega),if_neg (by omega),if_neg (by omega)]
    unfold cO;refine⟨fun h=>absurd ?_ hc,fun _=>⟨rfl,rfl⟩⟩;have:=h.2.1;have:=h.2.2.1 (by omega);omega
  ·by_cases A:224≤c0∧c0<240
   ·have hw:bP c0=3:=by unfold bP;rw[if_neg h0,if_neg h1,if_neg D,if_pos A]
    rw[hw,if_neg (by omega)]
    by_cases hc:(1<n∧c1 / 64=2)∧(2<n∧c2 / 64=2)
    ·rw[if_pos ⟨by omega,hc.1,hc.2⟩]
     by_cases B:et 3 c0 c1
     ·rw[if_neg (by unfold et at B;omega)]
      exact⟨fun h=>absurd B h.2.2.2.2.2,fun _=>⟨rfl,rfl⟩⟩
     ·rw[if_pos (by unfold et at B;omega)]
      refine⟨fun _=>⟨by simp,rfl⟩,fun h=>absurd ?_ h⟩;unfold cO;exact⟨by omega,by omega,fun _=>by omega,fun _=>by omega,fun h=>by omega,B⟩
    ·rw[if_neg (by omega),if_neg (by omega)]
     unfold cO;refine⟨fun h=>absurd ?_ hc,fun _=>⟨rfl,rfl⟩⟩;have:=h.2.1;have:=h.2.2.1 (by omega);have:=h.2.2.2.1 (by omega);omega
   ·by_cases E:240≤c0∧c0<245
    ·have hw:bP c0=4:=by unfold bP;rw[if_neg h0,if_neg h1,if_neg D,if_neg A,if_pos E]
     rw[hw,if_neg (by omega),if_neg (by omega)]
     by_cases hc:(1<n∧c1 / 64=2)∧(2<n∧c2 / 64=2)∧(3<n∧c3 / 64=2)
     ·rw[if_pos ⟨by omega,hc.1,hc.2.1,hc.2.2⟩]
      by_cases B:et 4 c0 c1
      ·rw[if_neg (by unfold et at B;omega)]
       exact⟨fun h=>absurd B h.2.2.2.2.2,fun _=>⟨rfl,rfl⟩⟩
      ·rw[if_pos (by unfold et at B;omega)]
       refine⟨fun _=>⟨by simp,rfl⟩,fun h=>absurd ?_ h⟩;unfold cO;exact⟨by omega,by omega,fun _=>by omega,fun _=>by omega,fun _=>by omega,B⟩
     ·rw[if_neg (by omega)]
      unfold cO;refine⟨fun h=>absurd ?_ hc,fun _=>⟨rfl,rfl⟩⟩;have:=h.2.1;have:=h.2.2.1 (by omega);have:=h.2.2.2.1 (by omega);have:=h.2.2.2.2.1 (by omega);omega
    ·have hw:bP c0=0:=by unfold bP;rw[if_neg h0,if_neg h1,if_neg D,if_neg A,if_neg E]
     rw[hw];refine⟨fun h=>absurd rfl h.1,fun _=>?_⟩
     by_cases g2:c0 / 32=6∧1<n∧c1 / 64=2
     ·rw[if_pos g2,if_neg (by omega)]
      exact⟨rfl,rfl⟩
     ·rw[if_neg g2,if_neg (by omega)]
      by_cases g4:c0 / 8=30∧(1<n∧c1 / 64=2)∧(2<n∧c2 / 64=2)∧(3<n∧c3 / 64=2)
      ·rw[if_pos g4,if_neg (by omega)]
       exact⟨rfl,rfl⟩
      ·rw[if_neg g4]
       exact⟨rfl,rfl⟩
theorem A7 (n:Nat):∀l:List UInt8,l.length≤n→lg n l=(validGoD n l&&!(l.contains 0)):=by
 induction n with
 |zero=>
  intro l h;have:l=[]:=List.length_eq_zero_iff.1 (by omega);subst this;rfl
 |succ n ih=>
  intro l h;unfold lg validGoD
  by_cases hl:l=[]
  ·subst hl;rfl
  ·rw[if_neg hl,if_neg hl]
   by_cases B:at_ l 0=0
   ·have hc:l.contains 0=true:=by
     cases l with
     |nil=>exact absurd rfl hl
     |cons b t=>
      have:b=0:=UInt8.toNat_inj.1 (by simpa [at_]using B);subst this;simp
    rw[hc,if_neg (fun A=>A.1 (by rw[B];rfl))];simp
   ·obtain⟨D,H⟩:=Cm l hl B
    by_cases A:cI l
    ·rw[if_pos A,if_neg (D A).1,(D A).2]
     have hw:0<bP (at_ l 0):=Nat.pos_of_ne_zero A.1;have I:0<l.length:=List.length_pos_iff.2 hl;rw[ih _ (by rw[List.length_drop];omega)]
     congr 2
     rw[Bool.eq_iff_iff];simp only[List.contains_iff_mem];constructor
     ·exact fun h=>List.mem_of_mem_drop h
     ·intro h
      rw[←List.take_append_drop (bP (at_ l 0)) l,List.mem_append]at h;rcases h with h|h
      ·obtain⟨i,hi,he⟩:=List.mem_iff_getElem.1 h
       rw[List.length_take]at hi;rw[List.getElem_take]at he;have G:at_ l i=0:=by unfold at_;rw[List.getD,List.getElem?_eq_getElem (by omega),he];rfl
       by_cases E:i=0
       ·subst E;exact absurd G B
       ·have:=A.2.2.1 i (by omega) (by omega)
        unfold cO at this;omega
      ·exact h
    ·rw[if_neg A,if_pos (H A)]
     simp
theorem xm (l:List UInt8):aZ l=(validD l&&!(l.contains 0)):=A7 _ l (Nat.le_refl _)
theorem gE (x z:List UInt8) (k:Nat) (h:k<x.length):at_ (x++z) k=at_ x k:=by
 unfold at_;simp[List.getD,List.getElem?_append_left h]
theorem Cl (x z:List UInt8) (hx:x≠[]):cI x→cI (x++z):=by
 have hl:0<x.length:=List.length_pos_iff.2 hx;rintro⟨h1,h2,h3,h4⟩;have A:=gE x z 0 hl;refine⟨by rw[A];exact h1,by rw[A,List.length_append];omega,fun k hk B=>?_,?_⟩
 ·rw[A]at hk
  rw[gE x z k (by omega)];exact h3 k hk B
 ·rw[A]
  by_cases hw:1<x.length
  ·rwa [gE x z 1 hw]
  ·unfold et
   omega
theorem Og (x y:List UInt8) (hx:x≠[]):cI (x++47::y)→cI x:=by
 have hl:0<x.length:=List.length_pos_iff.2 hx;rintro⟨h1,h2,h3,h4⟩;have A:=gE x (47::y) 0 hl;rw[A]at h1 h2 h3 h4
 have hs:at_ (x++47::y) x.length=47:=by
  unfold at_;simp[List.getD]
 have hw:bP (at_ x 0)≤x.length:=by
  rcases Nat.lt_or_ge x.length (bP (at_ x 0))with h|h
  ·have:=h3 x.length h hl
   rw[hs]at this;unfold cO at this;omega
  ·exact h
 refine⟨h1,hw,fun k hk B=>?_,?_⟩
 ·have:=h3 k hk B
  rwa [gE x _ k (by omega)]at this
 ·by_cases hw:1<x.length
  ·rwa [gE x _ 1 hw]at h4
  ·unfold et
   omega
theorem Fz (y:List UInt8):cI (47::y)∧bP (at_ (47::y) 0)=1:=by
 have e:at_ (47::y) 0=47:=rfl;have hw:bP 47=1:=by decide
 refine⟨⟨by rw[e,hw];omega,by rw[e,hw];simp,fun k hk A=>?_,?_⟩,by rw[e,hw]⟩
 ·rw[e,hw]at hk;omega
 ·rw[e,hw];unfold et;omega
theorem G6 (n:Nat):∀x y:List UInt8,x.length≤n→aZ (x++47::y)=(aZ x&&aZ y):=by
 induction n with
 |zero=>
  intro x y h;have:x=[]:=List.length_eq_zero_iff.1 (by omega);subst this;obtain⟨h1,D⟩:=Fz y;rw[List.nil_append,eZ _ (by simp),if_pos h1,D];rfl
 |succ n ih=>
  intro x y h
  by_cases B:x=[]
  ·subst B
   exact ih [] y (by simp)
  ·have hl:0<x.length:=List.length_pos_iff.2 B
   rw[eZ (x++47::y) (by simp),eZ x B]
   by_cases A:cI x
   ·rw[if_pos A,if_pos (Cl x _ B A),gE x _ 0 hl,List.drop_append_of_le_length A.2.1]
    have:0<bP (at_ x 0):=Nat.pos_of_ne_zero A.1;exact ih _ y (by rw[List.length_drop];omega)
   ·rw[if_neg A,if_neg (fun h=>A (Og x y B h))]
    rfl
theorem zx (x y:List UInt8):aZ (x++47::y)=(aZ x&&aZ y):=G6 _ x y (Nat.le_refl _)
def aF:List UInt8→List (List UInt8)
 |[]=>[[]]
 |b::l=>if b=47 then[]::aF l else(b::(aF l).headD [])::(aF l).tail
theorem wI (l:List UInt8):aF l≠[]:=by
 cases l with
 |nil=>simp[aF]
 |cons b l=>unfold aF;split<;>simp
theorem kK (x:List UInt8) (h:(47:UInt8)∉x):aF x=[x]:=by
 induction x with
 |nil=>rfl
 |cons b x ih=>
  have B:b≠47:=fun e=>h (by simp[e])
  rw[aF,if_neg B,ih (fun A=>h (List.mem_cons_of_mem _ A))];rfl
theorem y9 (x y:List UInt8):aF (x++47::y)=aF x++aF y:=by
 induction x with
 |nil=>simp[aF]
 |cons b x ih=>
  by_cases A:b=47
  ·subst A
   simp[aF,ih]
  ·rw[List.cons_append,aF,if_neg A,aF,if_neg A,ih]
   cases B:aF x with
   |nil=>exact absurd B (wI x)
   |cons p ps=>simp
theorem xU (l:List UInt8):∀p∈aF l,(47:UInt8)∉p:=by
 induction l with
 |nil=>simp[aF]
 |cons b l ih=>
  unfold aF
  by_cases A:b=47
  ·rw[if_pos A]
   intro p hp;rcases List.mem_cons.1 hp with rfl|hp
   ·simp
   ·exact ih p hp
  ·rw[if_neg A]
   cases B:aF l with
   |nil=>exact absurd B (wI l)
   |cons q qs=>
    rw[B]at ih;intro p hp;rcases List.mem_cons.1 hp with rfl|hp
    ·simp only[List.headD_cons]
     intro h;rcases List.mem_cons.1 h with h|h
     ·exact A h.symm
     ·exact ih q (by simp) h
    ·exact ih p (List.mem_cons_of_mem _ hp)
theorem za (l:List UInt8):(0≤indexByte l 47→aF l=l.take (indexByte l 47).toNat::aF (l.drop ((indexByte l 47).toNat+1)))∧(¬0≤indexByte l 47→aF l=[l]):=by
 induction l with
 |nil=>exact⟨fun h=>by simp[indexByte]at h,fun _=>rfl⟩
 |cons b l ih=>
  have E:=indexByte_ge l 47
  by_cases A:b=47
  ·subst A
   have e:indexByte ((47:UInt8)::l) 47=0:=by simp[indexByte]
   rw[e];exact⟨fun _=>by simp[aF],fun h=>absurd (by omega) h⟩
  ·have B:(b==47)=false:=by simpa using A
   by_cases hi:indexByte l 47=-1
   ·have e:indexByte (b::l) 47=-1:=by simp[indexByte,B,hi]
    rw[e];refine⟨fun h=>absurd h (by omega),fun _=>?_⟩;rw[aF,if_neg A,ih.2 (by omega)];rfl
   ·have D:(indexByte l 47==-1)=false:=by simpa using hi
    have e:indexByte (b::l) 47=indexByte l 47+1:=by simp[indexByte,B,D]
    rw[e,show(indexByte l 47+1).toNat=(indexByte l 47).toNat+1 by omega];refine⟨fun _=>?_,fun h=>absurd (by omega) h⟩;rw[aF,if_neg A,ih.1 (by omega)];rfl
theorem Gk (n:Nat):∀l:List UInt8,l.length≤n→aZ l=true→∀p∈aF l,aZ p=true:=by
 induction n with
 |zero=>
  intro l h _ p hp;have:l=[]:=List.length_eq_zero_iff.1 (by omega);subst this;simp[aF]at hp;subst hp;rfl
 |succ n ih=>
  intro l h A p hp;obtain⟨h1,D⟩:=za l
  by_cases hi:0≤indexByte l 47
  ·rw[h1 hi]at hp
   obtain⟨k,hk⟩:∃k:Nat,indexByte l 47=k:=⟨(indexByte l 47).toNat,by omega⟩
   obtain⟨E,B⟩:=List.getElem?_eq_some_iff.1 (indexByte_some hk).1;rw[hk]at hp
   have hs:l=l.take k++47::l.drop (k+1):=by
    rw[←B,List.getElem_cons_drop,List.take_append_drop]
   rw[hs,zx,Bool.and_eq_true]at A;rcases List.mem_cons.1 hp with rfl|hp
   ·exact A.1
   ·exact ih _ (by rw[List.length_drop];omega) A.2 p hp
  ·rw[D hi]at hp
   rcases List.mem_cons.1 hp with rfl|hp
   ·exact A
   ·cases hp
def cg (c p:List UInt8):List UInt8:=if p=[]∨p=[46]then c else if c=[]then p else c++47::p
def zV:List UInt8→List (List UInt8)→Option (List UInt8)
 |c,[]=>some c
 |c,p::ps=>if p=[46,46]then none else zV (cg c p) ps
def ue:List UInt8→List (List UInt8)→Option (List UInt8)
 |c,[]=>some c
 |c,p::ps=>if p=[46,46]∨200<(cg c p).length then none else ue (cg c p) ps
theorem OM (c p:List UInt8):c.length≤(cg c p).length:=by
 unfold cg;split
 ·exact Nat.le_refl _
 ·split
  ·next h=>simp[h]
  ·simp
theorem Vj (ps:List (List UInt8)):∀c a,zV c ps=some a→c.length≤a.length:=by
 induction ps with
 |nil=>intro c a h;cases h;exact Nat.le_refl _
 |cons p ps ih=>
  intro c a h;unfold zV at h;split at h
  ·cases h
  ·exact Nat.le_trans (OM c p) (ih _ _ h)
theorem Vk (ps:List (List UInt8)):∀c,c.length≤200→ue c ps=(zV c ps).bind fun a=>if a.length≤200 then some a else none:=by
 induction ps with
 |nil=>intro c h;simp[ue,zV,h]
 |cons p ps ih=>
  intro c h;unfold ue zV
  by_cases h1:p=[46,46]
  ·rw[if_pos (.inl h1),if_pos h1];rfl
  ·by_cases A:200<(cg c p).length
   ·rw[if_pos (.inr A),if_neg h1]
    cases B:zV (cg c p) ps with
    |none=>rfl
    |some a=>
     have:=Vj ps _ _ B;rw[Option.bind_some,if_neg (by omega)]
   ·rw[if_neg (fun h=>h.elim h1 A),if_neg h1]
    exact ih _ (by omega)
def bU (T P:Int) (l:List UInt8):List UInt8 × Int:=
 if aZ l=false then([],T)else if l.headD 47=47 then([],P)else
  match zV [] (aF l)with
  |none=>([],P)
  |some a=>if a=[]∨200<a.length then([],P)else(a,0)
def ff (ps:List (List UInt8)):List (List UInt8):=ps.filter fun p=>!(p==[]||p==[46])
def bA:List (List UInt8)→List UInt8
 |[]=>[]
 |[p]=>p
 |p::q::ps=>p++47::bA (q::ps)
theorem GX (qs:List (List UInt8)) (p:List UInt8):qs≠[]→bA (qs++[p])=bA qs++47::p:=by
 induction qs with
 |nil=>intro h;exact absurd rfl h
 |cons q qs ih=>
  intro _
  cases qs with
  |nil=>rfl
  |cons r qs=>
   have:=ih (by simp);simp only[List.cons_append]at this⊢;rw[bA,this,bA];simp
theorem r9 (qs:List (List UInt8)) (h:∀q∈qs,q≠[]):bA qs=[]↔qs=[]:=by
 constructor
 ·intro e
  cases qs with
  |nil=>rfl
  |cons q qs=>
   cases qs with
   |nil=>exact absurd e (h q (by simp))
   |cons r qs=>simp[bA]at e
 ·rintro rfl;rfl
theorem II (ps:List (List UInt8)):∀q∈ff ps,q≠[]∧q≠[46]∧q∈ps:=by
 intro q B;obtain⟨h1,A⟩:=List.mem_filter.1 B;simp at A;exact⟨A.1,A.2,h1⟩
theorem Vi (ps:List (List UInt8)):∀qs:List (List UInt8),(∀q∈qs,q≠[])→
 zV (bA qs) ps=if[46,46]∈ps then none else some (bA (qs++ff ps)):=by
 induction ps with
 |nil=>intro qs _;simp[zV,ff]
 |cons p ps ih=>
  intro qs D;unfold zV
  by_cases h1:p=[46,46]
  ·rw[if_pos h1,if_pos (by simp[h1])]
  ·rw[if_neg h1]
   have hm:([46,46]∈p::ps)↔[46,46]∈ps:=by
    rw[List.mem_cons];exact⟨fun h=>h.elim (fun e=>absurd e.symm h1) id,.inr⟩
   by_cases A:p=[]∨p=[46]
   ·have e:cg (bA qs) p=bA qs:=by unfold cg;rw[if_pos A]
    have k:ff (p::ps)=ff ps:=by
     unfold ff;rw[List.filter_cons,if_neg (by simpa using fun h=>A.resolve_left h)]
    rw[e,ih qs D,k];simp only[hm]
   ·have k:ff (p::ps)=p::ff ps:=by
     unfold ff;rw[List.filter_cons,if_pos (by simpa using A)]
    have e:cg (bA qs) p=bA (qs++[p]):=by
     unfold cg;rw[if_neg A]
     by_cases B:qs=[]
     ·subst B;rfl
     ·rw[if_neg (fun h=>B ((r9 qs D).1 h)),GX qs p B]
    rw[e,ih (qs++[p]) (by
     intro q B;rcases List.mem_append.1 B with h|h
     ·exact D q h
     ·simp at h;subst h;exact fun e=>A (.inl e)),k]
    simp only[hm,List.append_assoc,List.singleton_append]
theorem KC (l:List UInt8):zV [] (aF l)=if[46,46]∈aF l then none else some (bA (ff (aF l))):=by
 have:=Vi (aF l) [] (by simp)
 rwa [List.nil_append]at this
theorem qf (T P:Int) (hT:T≠0) (hP:P≠0) (l a:List UInt8):bU T P l=(a,0)↔
 (aZ l=true∧l.headD 47≠47∧[46,46]∉aF l∧a=bA (ff (aF l))∧ff (aF l)≠[]∧a.length≤200):=by
 unfold bU;rw[KC];have hk:∀q∈ff (aF l),q≠[]:=fun q G=>(II _ q G).1
 cases H:aZ l with
 |false=>simp[hT]
 |true=>
  rw[if_neg (by simp)]
  by_cases A:l.headD 47=47
  ·rw[if_pos A]
   exact⟨fun h=>absurd (Prod.mk.injEq .. ▸h).2 hP,fun h=>absurd A h.2.1⟩
  ·rw[if_neg A]
   by_cases hm:[46,46]∈aF l
   ·rw[if_pos hm]
    simp[hP,hm]
   ·rw[if_neg hm]
    simp only
    by_cases B:ff (aF l)=[]
    ·rw[if_pos (.inl (by rw[B];rfl))]
     simp[hP,B]
    ·have E:bA (ff (aF l))≠[]:=fun e=>B ((r9 _ hk).1 e)
     by_cases D:200<(bA (ff (aF l))).length
     ·rw[if_pos (.inr D)]
      constructor
      ·intro h;simp[hP]at h
      ·rintro⟨_,_,_,rfl,_,h⟩;omega
     ·rw[if_neg (fun h=>h.elim E D)]
      constructor
      ·intro h
       obtain⟨rfl,_⟩:=Prod.mk.injEq .. ▸h;exact⟨trivial,A,hm,rfl,B,by omega⟩
      ·rintro⟨_,_,_,rfl,_,_⟩;rfl
theorem Gl (qs:List (List UInt8)) (hq:qs≠[]) (h:∀q∈qs,(47:UInt8)∉q):aF (bA qs)=qs:=by
 induction qs with
 |nil=>exact absurd rfl hq
 |cons q qs ih=>
  cases qs with
  |nil=>exact kK q (h q (by simp))
  |cons r qs=>
   rw[bA,y9,kK q (h q (by simp)),ih (by simp) (fun p A=>h p (List.mem_cons_of_mem _ A))];rfl
theorem Mo (qs:List (List UInt8)) (h:∀q∈qs,aZ q=true):aZ (bA qs)=true:=by
 induction qs with
 |nil=>rfl
 |cons q qs ih=>
  cases qs with
  |nil=>exact h q (by simp)
  |cons r qs=>
   rw[bA,zx,h q (by simp),ih (fun p A=>h p (List.mem_cons_of_mem _ A))];rfl
theorem KN (qs:List (List UInt8)) (hq:qs≠[]) (h:∀q∈qs,q≠[]∧(47:UInt8)∉q):(bA qs).headD 47≠47:=by
 have first:∀q:List UInt8,q≠[]→(47:UInt8)∉q→∀z:List UInt8,(q++z).headD 47≠47:=by
  intro q hq B z
  cases q with
  |nil=>exact absurd rfl hq
  |cons b q=>exact fun e=>B (by simp at e;simp[e])
 cases qs with
 |nil=>exact absurd rfl hq
 |cons q qs=>
  obtain⟨h1,A⟩:=h q (by simp)
  cases qs with
  |nil=>
   have:=first q h1 A []
   rwa [List.append_nil]at this
  |cons r qs=>exact first q h1 A _
theorem B4 (T P:Int) (hT:T≠0) (hP:P≠0) (l a:List UInt8) (h:bU T P l=(a,0)):
 ∃qs:List (List UInt8),qs≠[]∧(∀q∈qs,q≠[]∧q≠[46]∧q≠[46,46]∧(47:UInt8)∉q∧aZ q=true)∧a=bA qs∧ff (aF l)=qs∧a.length≤200∧aZ l=true∧l.headD 47≠47∧[46,46]∉aF l:=by
 obtain⟨h1,D,B,E,G,H⟩:=(qf T P hT hP l a).1 h;refine⟨_,G,fun q I=>?_,E,rfl,H,h1,D,B⟩;obtain⟨J,L,A⟩:=II _ q I;exact⟨J,L,fun e=>B (e▸A),xU l q A,Gk _ l (Nat.le_refl _) h1 q A⟩
theorem Sk (qs:List (List UInt8)) (h:∀q∈qs,q≠[]∧q≠[46]):ff qs=qs:=
 List.filter_eq_self.2 fun q A=>by simpa using h q A
theorem E0 (T P:Int) (hT:T≠0) (hP:P≠0) (qs:List (List UInt8)) (x:List UInt8) (hq:qs≠[]) (h:∀q∈qs,q≠[]∧q≠[46]∧q≠[46,46]∧(47:UInt8)∉q∧aZ q=true)
 (hl:(bA qs).length≤200) (ht:aZ x=true) (h0:x.headD 47≠47) (hp:∃A B,aF x=A++qs++B∧(∀p∈A,p=[]∨p=[46])∧(∀p∈B,p=[]∨p=[46])):bU T P x=(bA qs,0):=by
 obtain⟨A,B,hp,hA,D⟩:=hp;have none_:∀C:List (List UInt8),(∀p∈C,p=[]∨p=[46])→ff C=[]:=fun C E=>List.filter_eq_nil_iff.2 fun p hp=>by simpa using fun e=>(E p hp).resolve_left e
 have hk:ff (aF x)=qs:=by
  have e:ff (aF x)=ff A++ff qs++ff B:=by rw[hp];unfold ff;rw[List.filter_append,List.filter_append]
  rw[e,none_ A hA,none_ B D,Sk qs fun q hq=>⟨(h q hq).1,(h q hq).2.1⟩];simp
 refine(qf T P hT hP x _).2 ⟨ht,h0,?_,by rw[hk],by rw[hk];exact hq,hl⟩;rw[hp];intro hm;rcases List.mem_append.1 hm with hm|hm
 ·rcases List.mem_append.1 hm with hm|hm
  ·rcases hA _ hm with e|e<;>cases e
  ·exact(h _ hm).2.2.1 rfl
 ·rcases D _ hm with e|e<;>cases e
theorem pA (T P:Int) (hT:T≠0) (hP:P≠0) (l a:List UInt8) (h:bU T P l=(a,0)):bU T P a=(a,0)∧a≠[]∧a.headD 47≠47∧a.length≤200:=by
 obtain⟨B,D,A,rfl,_,hl,_⟩:=B4 T P hT hP l a h;have E:=KN B D fun q h=>⟨(A q h).1,(A q h).2.2.2.1⟩
 refine⟨E0 T P hT hP B _ D A hl (Mo B fun q h=>(A q h).2.2.2.2) E ⟨[],[],by rw[Gl B D fun q h=>(A q h).2.2.2.1];simp,by simp,by simp⟩,fun e=>D ((r9 B fun q h=>(A q h).1).1 e),E,hl⟩
theorem Kb (T P:Int) (l:List UInt8):bU T P l=if aZ l=false then([],T)else if l.head? =some 47 then([],P)else
 match ue [] (aF l)with
 |none=>([],P)
 |some a=>if a=[]then([],P)else(a,0):=by
 unfold bU;split
 ·rfl
 ·by_cases hl:l=[]
  ·subst hl
   simp[aF,ue,cg]
  ·have D:l.headD 47=47↔l.head? =some 47:=by
    cases l with
    |nil=>exact absurd rfl hl
    |cons b t=>simp
   simp only[D];split
   ·rfl
   ·rw[Vk _ [] (by simp)]
    cases E:zV [] (aF l)with
    |none=>rfl
    |some a=>
     rw[Option.bind_some]
     by_cases A:a.length≤200
     ·rw[if_pos A]
      by_cases B:a=[]
      ·simp[B]
      ·simp[B];omega
     ·rw[if_neg A]
      show(if a=[]∨200<a.length then _ else _)=_;rw[if_pos (.inr (by omega))]
def dL (T P:Int) (l:List UInt8):Int:=if aZ l=false then T else if l=[]∨200<l.length then P else 0
end Path
namespace Rec
open Path
variable {k v:List UInt8} {n:Nat}
def oW (n:Nat):UInt8:=UInt8.ofNat (48+n % 10)
theorem nb (n:Nat):(oW n).toNat=48+n % 10:=by
 unfold oW;rw[UInt8.toNat_ofNat'];omega
def ax (n:Nat):List UInt8:=if n<10 then[oW n]else ax (n / 10)++[oW n]
termination_by n
decreasing_by omega
theorem ee (h:n<10):ax n=[oW n]:=by rw[ax,if_pos h]
theorem fY (h:¬n<10):ax n=ax (n / 10)++[oW n]:=by rw[ax,if_neg h]
theorem gG (n:Nat):0<(ax n).length:=by
 by_cases h:n<10
 ·rw[ee h];simp
 ·rw[fY h];simp
theorem NG (m:Nat) (h:m≠0) (s:List UInt8):ax m++s=(if m / 10=0 then[]else ax (m / 10))++oW m::s:=by
 by_cases A:m<10
 ·rw[ee A,if_pos (by omega)];rfl
 ·rw[fY A,if_neg (by omega)];simp
theorem lY (n:Nat):0<n→10 ^ ((ax n).length - 1)≤n∧n<10 ^ (ax n).length:=by
 induction n using Nat.strongRecOn with
 |ind n ih=>
  intro D
  by_cases h:n<10
  ·rw[ee h]
   simp;omega
  ·rw[fY h,List.length_append,List.length_singleton,Nat.add_sub_cancel]
   obtain⟨h1,B⟩:=ih (n / 10) (by omega) (by omega);have A:=gG (n / 10)
   have e:10 ^ (ax (n / 10)).length=10*10 ^ ((ax (n / 10)).length - 1):=by
    rw[←Nat.pow_succ',Nat.succ_eq_add_one,Nat.sub_add_cancel A]
   refine⟨by rw[e];omega,?_⟩;rw[Nat.pow_succ];omega
theorem lz {a b:Nat} (h:a≤b):(ax a).length≤(ax b).length:=by
 by_cases A:a=0
 ·subst A
  rw[ee (by omega)];exact gG b
 ·obtain⟨h1,_⟩:=lY a (by omega)
  obtain⟨_,D⟩:=lY b (by omega);have B:10 ^ ((ax a).length - 1)<10 ^ (ax b).length:=by omega
  have:=(Nat.pow_lt_pow_iff_right (by omega:1<10)).1 B;have:=gG a;omega
def fw (m:Nat):Nat:=if(ax (m+(ax m).length)).length=(ax m).length then m+(ax m).length else m+(ax m).length+1
theorem nv (m:Nat):m≤fw m∧fw m≤m+(ax m).length+1:=by
 unfold fw;split<;>omega
theorem gH (n k:Nat) (hk:0<k) (h:n<10 ^ k):(ax n).length≤k:=by
 by_cases A:n=0
 ·subst A
  rw[ee (by omega)];exact hk
 ·obtain⟨h1,_⟩:=lY n (by omega)
  have:=(Nat.pow_lt_pow_iff_right (by omega:1<10)).1 (Nat.lt_of_le_of_lt h1 h);omega
theorem Sq (d:Nat):d+1<10 ^ (d+1) - 10 ^ d:=by
 induction d with
 |zero=>decide
 |succ d ih=>
  have A:10 ^ (d+1+1)=10*10 ^ (d+1):=Nat.pow_succ';have B:10 ^ (d+1)=10*10 ^ d:=Nat.pow_succ';omega
theorem qD (m:Nat) (hm:0<m):(ax (fw m)).length+m=fw m:=by
 unfold fw
 by_cases h:(ax (m+(ax m).length)).length=(ax m).length
 ·rw[if_pos h,h];omega
 ·rw[if_neg h]
  obtain⟨d,hd⟩:∃d,(ax m).length=d+1:=⟨(ax m).length - 1,by have:=gG m;omega⟩
  obtain⟨h1,A⟩:=lY m hm;rw[hd]at h h1 A⊢
  have B:(ax (m+(d+1))).length≥d+1:=by
   have:=lz (show m≤m+(d+1) by omega);omega
  have hl:=Sq (d+1);have hle:m+(d+1)+1<10 ^ (d+1+1):=by omega
  have D:=gH (m+(d+1)) (d+1+1) (by omega) (by omega);have E:=gH (m+(d+1)+1) (d+1+1) (by omega) hle;have G:=lz (show m+(d+1)≤m+(d+1)+1 by omega);omega
theorem CN (m n:Nat) (h1:m≤n) (h2:n<fw m):(ax n).length+m≠n:=by
 unfold fw at h2;have A:=lz h1
 by_cases h:(ax (m+(ax m).length)).length=(ax m).length
 ·rw[if_pos h]at h2
  omega
 ·rw[if_neg h]at h2
  by_cases he:n=m+(ax m).length
  ·subst he
   intro e;exact h (by omega)
  ·omega
def bL (b:UInt8):Bool:=decide (48≤b.toNat∧b.toNat≤57)
def iL (l:List UInt8):Nat:=l.foldl (fun n b=>n*10+(b.toNat - 48)) 0
theorem Mu (l:List UInt8) (b:UInt8):iL (l++[b])=iL l*10+(b.toNat - 48):=by simp[iL]
theorem Jh (l:List UInt8) (h:∀b∈l,bL b=true):iL l<10 ^ l.length:=by
 suffices H:∀(l:List UInt8) (n k:Nat),(∀b∈l,bL b=true)→n<10 ^ k→l.foldl (fun n b=>n*10+(b.toNat - 48)) n<10 ^ (k+l.length) by
  have:=H l 0 0 h (by decide)
  rwa [Nat.zero_add]at this
 intro l
 induction l with
 |nil=>intro n k _ A;exact A
 |cons b l ih=>
  intro n k hl A;have B:=hl b (by simp);simp only[bL,decide_eq_true_eq]at B;have:=ih (n*10+(b.toNat - 48)) (k+1) (fun c hc=>hl c (List.mem_cons_of_mem _ hc)) (by rw[Nat.pow_succ];omega)
  rwa [show k+(b::l).length=k+1+l.length by rw[List.length_cons];omega]
def dR (l:List UInt8):Option Nat:=if l.length<1∨18<l.length then none else if l.all bL then some (iL l)else none
def iB (k v:List UInt8):Bool:=!k.contains 61&&!k.isEmpty&&aZ k&&aZ v&&decide (k.length+v.length≤100000)
def fQ (k v:List UInt8):List UInt8:=32::k++61::v++[10]
theorem gF (k v:List UInt8):(fQ k v).length=k.length+v.length+3:=by
 simp only[fQ,List.length_append,List.length_cons,List.length_nil];omega
def bI (k v:List UInt8):List UInt8:=ax (fw (fQ k v).length)++fQ k v
theorem qC (k v:List UInt8):(bI k v).length=fw (fQ k v).length:=by
 rw[bI,List.length_append];exact qD _ (by rw[gF];omega)
def iu (l:List UInt8):Nat:=(l.takeWhile bL).length
def eA (R T:Int) (l:List UInt8):Except Int (List UInt8 × List UInt8 × Nat):=
 if iu l<1∨7<iu l∨l.getD 0 0=48∨iu l=l.length∨l.getD (iu l) 0≠32 then .error R
 else if l.length<iL (l.take (iu l))∨iL (l.take (iu l))<iu l+4∨l.getD (iL (l.take (iu l)) - 1) 0≠10 then .error R
 else
  let line:=(l.drop (iu l+1)).take (iL (l.take (iu l)) - 1 - (iu l+1))
  if indexByte line 61<1 then .error R
  else if aZ line=false then .error T
  else .ok (line.take (indexByte line 61).toNat,line.drop ((indexByte line 61).toNat+1),iL (l.take (iu l)))
def iG (R T:Int):Nat→List UInt8→List (List UInt8 × List UInt8)→List (List UInt8 × List UInt8) × Int
 |0,_,acc=>(acc,0)
 |n+1,l,acc=>if l=[]then(acc,0)else match eA R T l with
  |.error e=>([],e)
  |.ok (k,v,m)=>iG R T n (l.drop m) (acc++[(k,v)])
def di (R T:Int) (l:List UInt8):List (List UInt8 × List UInt8) × Int:=iG R T l.length l []
theorem nO {R T:Int} {l:List UInt8} {m:Nat} (h:eA R T l=.ok (k,v,m)):0<m∧m≤l.length:=by
 unfold eA at h;split at h
 ·cases h
 ·split at h
  ·cases h
  ·next A=>
   dsimp only at h
   split at h
   ·cases h
   ·split at h
    ·cases h
    ·cases h
     omega
theorem Dx (R T:Int) (n:Nat):∀m l acc,l.length≤n→l.length≤m→iG R T n l acc=iG R T m l acc:=by
 induction n with
 |zero=>
  intro m l acc h _;obtain rfl:l=[]:=List.length_eq_zero_iff.1 (by omega)
  cases m<;>simp[iG]
 |succ n ih=>
  intro m l acc h1 B
  cases m with
  |zero=>
   obtain rfl:l=[]:=List.length_eq_zero_iff.1 (by omega);simp[iG]
  |succ m=>
   unfold iG
   by_cases hl:l=[]
   ·rw[if_pos hl,if_pos hl]
   ·rw[if_neg hl,if_neg hl]
    cases hs:eA R T l with
    |error e=>rfl
    |ok x=>
     obtain⟨k,v,j⟩:=x;have:=nO hs;have A:0<l.length:=List.length_pos_iff.2 hl;exact ih m _ _ (by rw[List.length_drop];omega) (by rw[List.length_drop];omega)
def jc (R T:Int) (l:List UInt8) (acc:List (List UInt8 × List UInt8)):List (List UInt8 × List UInt8) × Int:=iG R T l.length l acc
theorem qU (R T:Int) (acc:List (List UInt8 × List UInt8)):jc R T [] acc=(acc,0):=rfl
theorem lf (R T:Int) (l:List UInt8) (hl:l≠[]) (acc:List (List UInt8 × List UInt8)):jc R T l acc=match eA R T l with
 |.error e=>([],e)
 |.ok (k,v,m)=>jc R T (l.drop m) (acc++[(k,v)]):=by
 have B:0<l.length:=List.length_pos_iff.2 hl;unfold jc;obtain⟨n,A⟩:∃n,l.length=n+1:=⟨l.length - 1,by omega⟩
 rw[A,iG,if_neg hl]
 cases hs:eA R T l with
 |error e=>rfl
 |ok x=>
  obtain⟨k,v,j⟩:=x;have:=nO hs;exact Dx R T _ _ _ _ (by rw[List.length_drop];omega) (Nat.le_refl _)
theorem KM (c:UInt8) (hc:0<c.toNat∧c.toNat<128) (x y:List UInt8) (hx:x≠[]):cI (x++c::y)→cI x:=by
 have hl:0<x.length:=List.length_pos_iff.2 hx;rintro⟨h1,h2,h3,h4⟩;have A:=gE x (c::y) 0 hl;rw[A]at h1 h2 h3 h4
 have hs:at_ (x++c::y) x.length=c.toNat:=by
  unfold at_;simp[List.getD]
 have hw:bP (at_ x 0)≤x.length:=by
  rcases Nat.lt_or_ge x.length (bP (at_ x 0))with h|h
  ·have:=h3 x.length h hl
   rw[hs]at this;unfold cO at this;omega
  ·exact h
 refine⟨h1,hw,fun k hk B=>?_,?_⟩
 ·have:=h3 k hk B
  rwa [gE x _ k (by omega)]at this
 ·by_cases hw:1<x.length
  ·rwa [gE x _ 1 hw]at h4
  ·unfold et
   omega
theorem Cn (c:UInt8) (hc:0<c.toNat∧c.toNat<128) (y:List UInt8):cI (c::y)∧bP (at_ (c::y) 0)=1:=by
 have e:at_ (c::y) 0=c.toNat:=rfl;have hw:bP c.toNat=1:=by unfold bP;rw[if_neg (by omega),if_pos (by omega)]
 refine⟨⟨by rw[e,hw];omega,by rw[e,hw];simp,fun k hk A=>?_,?_⟩,by rw[e,hw]⟩
 ·rw[e,hw]at hk;omega
 ·rw[e,hw];unfold et;omega
theorem G5 (c:UInt8) (hc:0<c.toNat∧c.toNat<128) (n:Nat):∀x y:List UInt8,x.length≤n→aZ (x++c::y)=(aZ x&&aZ y):=by
 induction n with
 |zero=>
  intro x y h;obtain rfl:x=[]:=List.length_eq_zero_iff.1 (by omega);obtain⟨h1,D⟩:=Cn c hc y;rw[List.nil_append,eZ _ (by simp),if_pos h1,D];rfl
 |succ n ih=>
  intro x y h
  by_cases B:x=[]
  ·subst B
   exact ih [] y (by simp)
  ·have hl:0<x.length:=List.length_pos_iff.2 B
   rw[eZ (x++c::y) (by simp),eZ x B]
   by_cases A:cI x
   ·rw[if_pos A,if_pos (Cl x _ B A),gE x _ 0 hl,List.drop_append_of_le_length A.2.1]
    have:0<bP (at_ x 0):=Nat.pos_of_ne_zero A.1;exact ih _ y (by rw[List.length_drop];omega)
   ·rw[if_neg A,if_neg (fun h=>A (KM c hc x y B h))]
    rfl
theorem Qm (c:UInt8) (hc:0<c.toNat∧c.toNat<128) (x y:List UInt8):aZ (x++c::y)=(aZ x&&aZ y):=G5 c hc _ x y (Nat.le_refl _)
theorem B7 (n:Nat):bL (oW n)=true:=by
 unfold bL;rw[nb];simp;omega
theorem qj (n:Nat):∀b∈ax n,bL b=true:=by
 induction n using Nat.strongRecOn with
 |ind n ih=>
  by_cases h:n<10
  ·rw[ee h]
   intro b A;rw[List.mem_singleton.1 A];exact B7 n
  ·rw[fY h]
   intro b A;rcases List.mem_append.1 A with h1|h1
   ·exact ih _ (by omega) b h1
   ·rw[List.mem_singleton.1 h1]
    exact B7 n
theorem DP (n:Nat):iL (ax n)=n:=by
 induction n using Nat.strongRecOn with
 |ind n ih=>
  by_cases h:n<10
  ·rw[ee h]
   show 0*10+((oW n).toNat - 48)=n;rw[nb];omega
  ·rw[fY h,Mu,ih _ (by omega),nb]
   omega
theorem Kf (n:Nat) (hn:0<n):(ax n).getD 0 0≠48:=by
 induction n using Nat.strongRecOn with
 |ind n ih=>
  by_cases h:n<10
  ·rw[ee h]
   intro e;have:=congrArg UInt8.toNat e;simp only[List.getD_cons_zero,nb]at this;simp at this;omega
  ·rw[fY h]
   have:=ih (n / 10) (by omega) (by omega);have A:=gG (n / 10);rw[List.getD,List.getElem?_append_left A];exact this
theorem xZ (d x:List UInt8) (hd:∀b∈d,bL b=true) (hx:∀b r,x=b::r→bL b=false):(d++x).takeWhile bL=d:=by
 induction d with
 |nil=>
  cases x with
  |nil=>rfl
  |cons b r=>rw[List.nil_append,List.takeWhile_cons,hx b r rfl];rfl
 |cons c d ih=>
  rw[List.cons_append,List.takeWhile_cons,hd c (by simp),if_pos rfl,ih fun b A=>hd b (List.mem_cons_of_mem _ A)]
theorem index_first (x y:List UInt8) (c:UInt8) (h:x.contains c=false):indexByte (x++c::y) c=x.length:=by
 induction x with
 |nil=>simp[indexByte]
 |cons b x ih=>
  rw[List.contains_cons,Bool.or_eq_false_iff]at h
  have A:(b==c)=false:=by
   have:=h.1;rw[beq_eq_false_iff_ne]at this⊢;exact fun e=>this e.symm
  have hi:=ih h.2;have B:(indexByte (x++c::y) c==-1)=false:=by rw[hi,beq_eq_false_iff_ne];omega
  have e:indexByte (b::(x++c::y)) c=indexByte (x++c::y) c+1:=by simp[indexByte,A,B]
  rw[List.cons_append,e,hi,List.length_cons];rfl
theorem lF (h:iB k v=true):k.contains 61=false∧k≠[]∧aZ k=true∧aZ v=true∧k.length+v.length≤100000:=by
 simp only[iB,Bool.and_eq_true,Bool.not_eq_true',decide_eq_true_eq,List.isEmpty_eq_false_iff]at h;exact⟨h.1.1.1.1,h.1.1.1.2,h.1.1.2,h.1.2,h.2⟩
theorem pF (h:iB k v=true):∃d,bI k v=d++fQ k v∧(∀b∈d,bL b=true)∧iL d=(bI k v).length∧1≤d.length∧d.length≤7∧d.getD 0 0≠48∧(bI k v).length=d.length+k.length+v.length+3:=by
 obtain⟨_,_,_,_,hl⟩:=lF h;have B:=gF k v;have D:0<(fQ k v).length:=by omega
 refine⟨ax (fw (fQ k v).length),rfl,qj _,by rw[DP,qC],gG _,?_,Kf _ (by have:=(nv (fQ k v).length).1;omega),?_⟩
 ·refine gH _ 7 (by omega) ?_
  have h1:=(nv (fQ k v).length).2;have A:=gH (fQ k v).length 6 (by omega) (by omega);omega
 ·rw[bI,List.length_append];omega
theorem AQ (R T:Int) (h:iB k v=true) (rest:List UInt8):eA R T (bI k v++rest)=.ok (k,v,(bI k v).length):=by
 obtain⟨m1,m2,m3,m4,m5⟩:=lF h;obtain⟨d,hd,E,hval,L,M,D,hlen⟩:=pF h;have hk:0<k.length:=List.length_pos_iff.2 m2;have hl:bI k v++rest=d++(32::(k++61::v++10::rest)):=by rw[hd];simp[fQ]
 have I:iu (bI k v++rest)=d.length:=by
  unfold iu;rw[hl,xZ d _ E fun b r e=>by cases e;decide]
 have B:(bI k v++rest).length=d.length+(k.length+v.length+3)+rest.length:=by rw[List.length_append,hlen];omega
 have J:(bI k v++rest).take d.length=d:=by rw[hl];exact List.take_left
 have H:(bI k v++rest).drop (d.length+1)=k++61::v++10::rest:=by
  rw[hl,←List.drop_drop,List.drop_left];rfl
 have g0:(bI k v++rest).getD 0 0=d.getD 0 0:=by
  rw[hl,List.getD,List.getElem?_append_left (by omega)];rfl
 have g1:(bI k v++rest).getD d.length 0=32:=by
  rw[hl,List.getD,List.getElem?_append_right (Nat.le_refl _),Nat.sub_self];rfl
 have A:(k++61::v).length=k.length+v.length+1:=by rw[List.length_append,List.length_cons];omega
 have g2:(bI k v++rest).getD ((bI k v).length - 1) 0=10:=by
  rw[hl,List.getD,hlen,List.getElem?_append_right (by omega),show d.length+k.length+v.length+3 - 1 - d.length=(k++61::v).length+1 by rw[A];omega,List.getElem?_cons_succ,List.getElem?_append_right (Nat.le_refl _),Nat.sub_self];rfl
 unfold eA;rw[I,J,hval,if_neg (by rw[B];rintro(e|e|e|e|e);omega;omega;exact D (g0▸e);omega;exact e g1),if_neg (by rw[B];rintro(e|e|e);omega;omega;exact e g2),H]
 have G:(k++61::v++10::rest).take ((bI k v).length - 1 - (d.length+1))=k++61::v:=by
  rw[hlen,show d.length+k.length+v.length+3 - 1 - (d.length+1)=(k++61::v).length by rw[A];omega];exact List.take_left
 rw[G]
 dsimp only
 rw[index_first k v 61 m1,if_neg (by omega),Qm 61 (by decide) k v,m3,m4,if_neg (by simp),Int.toNat_natCast,List.take_left];rw[←List.drop_drop,List.drop_left];rfl
def aM (l:List (List UInt8 × List UInt8)):List UInt8:=(l.map fun r=>bI r.1 r.2).flatten
theorem GK (R T:Int) (l:List (List UInt8 × List UInt8)):∀(rest:List UInt8) acc,(∀r∈l,iB r.1 r.2=true)→jc R T (aM l++rest) acc=jc R T rest (acc++l):=by
 induction l with
 |nil=>intro rest acc _;simp[aM]
 |cons r l ih=>
  intro rest acc h;have B:=h r (by simp);have e:aM (r::l)++rest=bI r.1 r.2++(aM l++rest):=by simp[aM]
  have A:bI r.1 r.2++(aM l++rest)≠[]:=by
   have E:=(nv (fQ r.1 r.2).length).1;have G:=gF r.1 r.2;intro e;have:=congrArg List.length e;rw[List.length_append,qC,List.length_nil]at this;omega
  rw[e,lf R T _ A,AQ R T B];simp only;rw[List.drop_left,ih rest _ fun x D=>h x (List.mem_cons_of_mem _ D)];simp
end Rec
end Go.Proofs.YtdhibldkldlfpaaGreatDoor
