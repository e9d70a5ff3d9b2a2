/- Merged. -/
import Derived.Lib.ValidU
import Derived.Lib.IndexLaws
namespace Go.Proofs.YtdhibldkldlfpaaGreatDoor
namespace Path
end Path
set_option linter.unusedVariables false
open Go.Lib
namespace Path
def bQ (c:Nat):Nat:=if c=0 then 0 else if c<128 then 1 else if 194≤c∧c<224 then 2 else if 224≤c∧c<240 then 3 else if 240≤c∧c<245 then 4 else 0
def at_ (l:List UInt8) (k:Nat):Nat:=(l.getD k 0).toNat
def iP (c:Nat):Prop:=128≤c∧c≤191
instance (c:Nat):Decidable (iP c):=inferInstanceAs (Decidable (_∧_))
def jZ (n c b:Nat):Prop:=(n=3∧(c=224∧b<160∨c=237∧159<b))∨(n=4∧(c=240∧b<144∨c=244∧143<b))
instance (n c b:Nat):Decidable (jZ n c b):=inferInstanceAs (Decidable (_∨_))
def iM (l:List UInt8):Prop:=
 bQ (at_ l 0)≠0∧bQ (at_ l 0)≤l.length∧(∀k,k<bQ (at_ l 0)→0<k→iP (at_ l k))∧¬jZ (bQ (at_ l 0)) (at_ l 0) (at_ l 1)
instance (l:List UInt8):Decidable (iM l):=inferInstanceAs (Decidable (_∧_∧_∧_))
def sf:Nat→List UInt8→Bool
 |0,_=>true
 |n+1,l=>if l=[]then true else if iM l then sf n (l.drop (bQ (at_ l 0)))else false
def aQ (l:List UInt8):Bool:=sf l.length l
theorem Zf (c:Nat):bQ c≤4:=by unfold bQ;repeat' split
                              all_goals omega
theorem Kv (n:Nat):∀m l,l.length≤n→l.length≤m→sf n l=sf m l:=by
 induction n with
 |zero=>
  intro m l h _;have:l=[]:=List.length_eq_zero_iff.1 (by omega);subst this
  cases m<;>simp[sf]
 |succ n ih=>
  intro m l h1 D
  cases m with
  |zero=>
   have:l=[]:=List.length_eq_zero_iff.1 (by omega);subst this;simp[sf]
  |succ m=>
   unfold sf
   by_cases hl:l=[]
   ·rw[if_pos hl,if_pos hl]
   ·rw[if_neg hl,if_neg hl]
    by_cases A:iM l
    ·rw[if_pos A,if_pos A]
     have:0<bQ (at_ l 0):=Nat.pos_of_ne_zero A.1;have B:0<l.length:=List.length_pos_iff.2 hl;exact ih m _ (by rw[List.length_drop];omega) (by rw[List.length_drop];omega)
    ·rw[if_neg A,if_neg A]
theorem zG:aQ []=true:=rfl
theorem kD (l:List UInt8) (hl:l≠[]):aQ l=if iM l then aQ (l.drop (bQ (at_ l 0)))else false:=by
 have D:0<l.length:=List.length_pos_iff.2 hl;unfold aQ;obtain⟨n,B⟩:∃n,l.length=n+1:=⟨l.length - 1,by omega⟩
 rw[B,sf,if_neg hl]
 by_cases A:iM l
 ·rw[if_pos A,if_pos A]
  have:0<bQ (at_ l 0):=Nat.pos_of_ne_zero A.1;exact Kv _ _ _ (by rw[List.length_drop];omega) (Nat.le_refl _)
 ·rw[if_neg A,if_neg A]
theorem get_at (l:List UInt8) (k:Nat):((⟨l.toArray⟩:ByteArray).get! k).toNat=at_ l k:=by
 unfold at_ ByteArray.get!;simp only[Array.getElem!_eq_getD]
 by_cases h:k<l.length
 ·simp[Array.getD,List.getD,h]
 ·simp[Array.getD,List.getD,h]
  rfl
theorem Qs (l:List UInt8):decodeL l=
 (if at_ l 0<128 then(at_ l 0,1)
  else if at_ l 0 / 32=6∧(1<l.length∧at_ l 1 / 64=2)then
   (if 128≤at_ l 0 % 32*64+at_ l 1 % 64 then(at_ l 0 % 32*64+at_ l 1 % 64,2)else(65533,1))
  else if at_ l 0 / 16=14∧(1<l.length∧at_ l 1 / 64=2)∧(2<l.length∧at_ l 2 / 64=2)then
   (if 2048≤at_ l 0 % 16*4096+at_ l 1 % 64*64+at_ l 2 % 64∧Utf8.valid (at_ l 0 % 16*4096+at_ l 1 % 64*64+at_ l 2 % 64:Nat)=true then(at_ l 0 % 16*4096+at_ l 1 % 64*64+at_ l 2 % 64,3)else(65533,1))
  else if at_ l 0 / 8=30∧(1<l.length∧at_ l 1 / 64=2)∧(2<l.length∧at_ l 2 / 64=2)∧(3<l.length∧at_ l 3 / 64=2)then
   (if 65536≤at_ l 0 % 8*262144+at_ l 1 % 64*4096+at_ l 2 % 64*64+at_ l 3 % 64∧Utf8.valid (at_ l 0 % 8*262144+at_ l 1 % 64*4096+at_ l 2 % 64*64+at_ l 3 % 64:Nat)=true then(at_ l 0 % 8*262144+at_ l 1 % 64*4096+at_ l 2 % 64*64+at_ l 3 % 64,4)else(65533,1))
  else(65533,1)):=by
 unfold decodeL Utf8.decode;simp only[Nat.zero_add,get_at,show(⟨l.toArray⟩:ByteArray).size=l.length by simp[ByteArray.size],Utf8.runeError,ge_iff_le,Bool.and_eq_true,decide_eq_true_eq,beq_iff_eq,and_assoc]
theorem Oa (l:List UInt8) (k:Nat):at_ l k<256:=(l.getD k 0).toNat_lt
theorem Sz (c:Nat):Utf8.valid (c:Int)=true↔(c<55296∨(57344≤c∧c≤1114111)):=by
 unfold Utf8.valid;simp only[Bool.or_eq_true,Bool.and_eq_true,decide_eq_true_eq];omega
theorem Jh (l:List UInt8) (hl:l≠[]) (h0:at_ l 0≠0):
 (iM l→¬((decodeL l).1=65533∧(decodeL l).2=1)∧(decodeL l).2=bQ (at_ l 0))∧(¬iM l→(decodeL l).1=65533∧(decodeL l).2=1):=by
 have G:0<l.length:=List.length_pos_iff.2 hl;rw[Qs];simp only[Sz];have H:=Oa l 0;have b1:=Oa l 1;have I:=Oa l 2;have J:=Oa l 3
 have key:iM l↔bQ (at_ l 0)≠0∧bQ (at_ l 0)≤l.length∧(1<bQ (at_ l 0)→iP (at_ l 1))∧(2<bQ (at_ l 0)→iP (at_ l 2))∧(3<bQ (at_ l 0)→iP (at_ l 3))∧¬jZ (bQ (at_ l 0)) (at_ l 0) (at_ l 1):=by
  have E:=Zf (at_ l 0);constructor
  ·rintro⟨h1,D,A,h5⟩
   exact⟨h1,D,fun h=>A 1 h (by omega),fun h=>A 2 h (by omega),fun h=>A 3 h (by omega),h5⟩
  ·rintro⟨h1,D,A,h5,h6,h7⟩
   refine⟨h1,D,fun k hk L=>?_,h7⟩;rcases(show k=1∨k=2∨k=3 by omega)with rfl|rfl|rfl
   ·exact A hk
   ·exact h5 hk
   ·exact h6 hk
 rw[key];generalize at_ l 0=c0 at*;generalize at_ l 1=c1 at*;generalize at_ l 2=c2 at*;generalize at_ l 3=c3 at*;generalize l.length=n at*;clear key hl
 by_cases h1:c0<128
 ·have hw:bQ c0=1:=by unfold bQ;rw[if_neg h0,if_pos h1]
  rw[hw,if_pos h1];unfold jZ;refine⟨fun _=>⟨by simp;omega,rfl⟩,fun h=>absurd ?_ h⟩;exact⟨by omega,by omega,fun h=>by omega,fun h=>by omega,fun h=>by omega,by omega⟩
 ·rw[if_neg h1]
  by_cases D:194≤c0∧c0<224
  ·have hw:bQ c0=2:=by unfold bQ;rw[if_neg h0,if_neg h1,if_pos D]
   rw[hw]
   by_cases hc:1<n∧c1 / 64=2
   ·rw[if_pos ⟨by omega,hc⟩,if_pos (by omega)]
    unfold iP jZ;refine⟨fun _=>⟨by simp,rfl⟩,fun h=>absurd ?_ h⟩;exact⟨by omega,by omega,fun _=>by omega,fun h=>by omega,fun h=>by omega,by omega⟩
   ·rw[if_neg (by omega),if_neg (by omega),if_neg (by omega)]
    unfold iP;refine⟨fun h=>absurd ?_ hc,fun _=>⟨rfl,rfl⟩⟩;have:=h.2.1;have:=h.2.2.1 (by omega);omega
  ·by_cases A:224≤c0∧c0<240
   ·have hw:bQ c0=3:=by unfold bQ;rw[if_neg h0,if_neg h1,if_neg D,if_pos A]
    rw[hw,if_neg (by omega)]
    by_cases hc:(1<n∧c1 / 64=2)∧(2<n∧c2 / 64=2)
    ·rw[if_pos ⟨by omega,hc.1,hc.2⟩]
     by_cases B:jZ 3 c0 c1
     ·rw[if_neg (by unfold jZ at B;omega)]
      exact⟨fun h=>absurd B h.2.2.2.2.2,fun _=>⟨rfl,rfl⟩⟩
     ·rw[if_pos (by unfold jZ at B;omega)]
      refine⟨fun _=>⟨by simp,rfl⟩,fun h=>absurd ?_ h⟩;unfold iP;exact⟨by omega,by omega,fun _=>by omega,fun _=>by omega,fun h=>by omega,B⟩
    ·rw[if_neg (by omega),if_neg (by omega)]
     unfold iP;refine⟨fun h=>absurd ?_ hc,fun _=>⟨rfl,rfl⟩⟩;have:=h.2.1;have:=h.2.2.1 (by omega);have:=h.2.2.2.1 (by omega);omega
   ·by_cases E:240≤c0∧c0<245
    ·have hw:bQ c0=4:=by unfold bQ;rw[if_neg h0,if_neg h1,if_neg D,if_neg A,if_pos E]
     rw[hw,if_neg (by omega),if_neg (by omega)]
     by_cases hc:(1<n∧c1 / 64=2)∧(2<n∧c2 / 64=2)∧(3<n∧c3 / 64=2)
     ·rw[if_pos ⟨by omega,hc.1,hc.2.1,hc.2.2⟩]
      by_cases B:jZ 4 c0 c1
      ·rw[if_neg (by unfold jZ at B;omega)]
       exact⟨fun h=>absurd B h.2.2.2.2.2,fun _=>⟨rfl,rfl⟩⟩
      ·rw[if_pos (by unfold jZ at B;omega)]
       refine⟨fun _=>⟨by simp,rfl⟩,fun h=>absurd ?_ h⟩;unfold iP;exact⟨by omega,by omega,fun _=>by omega,fun _=>by omega,fun _=>by omega,B⟩
     ·rw[if_neg (by omega)]
      unfold iP;refine⟨fun h=>absurd ?_ hc,fun _=>⟨rfl,rfl⟩⟩;have:=h.2.1;have:=h.2.2.1 (by omega);have:=h.2.2.2.1 (by omega);have:=h.2.2.2.2.1 (by omega);omega
    ·have hw:bQ c0=0:=by unfold bQ;rw[if_neg h0,if_neg h1,if_neg D,if_neg A,if_neg E]
     rw[hw];refine⟨fun h=>absurd rfl h.1,fun _=>?_⟩
     by_cases g2:c0 / 32=6∧1<n∧c1 / 64=2
     ·rw[if_pos g2,if_neg (by omega)]
      exact⟨rfl,rfl⟩
     ·rw[if_neg g2,if_neg (by omega)]
      by_cases g4:c0 / 8=30∧(1<n∧c1 / 64=2)∧(2<n∧c2 / 64=2)∧(3<n∧c3 / 64=2)
      ·rw[if_pos g4,if_neg (by omega)]
       exact⟨rfl,rfl⟩
      ·rw[if_neg g4]
       exact⟨rfl,rfl⟩
theorem H6 (n:Nat):∀l:List UInt8,l.length≤n→sf n l=(validGoD n l&&!(l.contains 0)):=by
 induction n with
 |zero=>
  intro l h;have:l=[]:=List.length_eq_zero_iff.1 (by omega);subst this;rfl
 |succ n ih=>
  intro l h;unfold sf validGoD
  by_cases hl:l=[]
  ·subst hl;rfl
  ·rw[if_neg hl,if_neg hl]
   by_cases B:at_ l 0=0
   ·have hc:l.contains 0=true:=by
     cases l with
     |nil=>exact absurd rfl hl
     |cons b t=>
      have:b=0:=UInt8.toNat_inj.1 (by simpa [at_]using B);subst this;simp
    rw[hc,if_neg (fun A=>A.1 (by rw[B];rfl))];simp
   ·obtain⟨D,H⟩:=Jh l hl B
    by_cases A:iM l
    ·rw[if_pos A,if_neg (D A).1,(D A).2]
     have hw:0<bQ (at_ l 0):=Nat.pos_of_ne_zero A.1;have I:0<l.length:=List.length_pos_iff.2 hl;rw[ih _ (by rw[List.length_drop];omega)]
     congr 2
     rw[Bool.eq_iff_iff];simp only[List.contains_iff_mem];constructor
     ·exact fun h=>List.mem_of_mem_drop h
     ·intro h
      rw[←List.take_append_drop (bQ (at_ l 0)) l,List.mem_append]at h;rcases h with h|h
      ·obtain⟨i,hi,he⟩:=List.mem_iff_getElem.1 h
       rw[List.length_take]at hi;rw[List.getElem_take]at he;have G:at_ l i=0:=by unfold at_;rw[List.getD,List.getElem?_eq_getElem (by omega),he];rfl
       by_cases E:i=0
       ·subst E;exact absurd G B
       ·have:=A.2.2.1 i (by omega) (by omega)
        unfold iP at this;omega
      ·exact h
    ·rw[if_neg A,if_pos (H A)]
     simp
theorem DJ (l:List UInt8):aQ l=(validD l&&!(l.contains 0)):=H6 _ l (Nat.le_refl _)
theorem oz (x z:List UInt8) (k:Nat) (h:k<x.length):at_ (x++z) k=at_ x k:=by
 unfold at_;simp[List.getD,List.getElem?_append_left h]
theorem Jg (x z:List UInt8) (hx:x≠[]):iM x→iM (x++z):=by
 have hl:0<x.length:=List.length_pos_iff.2 hx;rintro⟨h1,h2,h3,h4⟩;have A:=oz x z 0 hl;refine⟨by rw[A];exact h1,by rw[A,List.length_append];omega,fun k hk B=>?_,?_⟩
 ·rw[A]at hk
  rw[oz x z k (by omega)];exact h3 k hk B
 ·rw[A]
  by_cases hw:1<x.length
  ·rwa [oz x z 1 hw]
  ·unfold jZ
   omega
theorem Uq (x y:List UInt8) (hx:x≠[]):iM (x++47::y)→iM x:=by
 have hl:0<x.length:=List.length_pos_iff.2 hx;rintro⟨h1,h2,h3,h4⟩;have A:=oz x (47::y) 0 hl;rw[A]at h1 h2 h3 h4
 have hs:at_ (x++47::y) x.length=47:=by
  unfold at_;simp[List.getD]
 have hw:bQ (at_ x 0)≤x.length:=by
  rcases Nat.lt_or_ge x.length (bQ (at_ x 0))with h|h
  ·have:=h3 x.length h hl
   rw[hs]at this;unfold iP at this;omega
  ·exact h
 refine⟨h1,hw,fun k hk B=>?_,?_⟩
 ·have:=h3 k hk B
  rwa [oz x _ k (by omega)]at this
 ·by_cases hw:1<x.length
  ·rwa [oz x _ 1 hw]at h4
  ·unfold jZ
   omega
theorem L6 (y:List UInt8):iM (47::y)∧bQ (at_ (47::y) 0)=1:=by
 have e:at_ (47::y) 0=47:=rfl;have hw:bQ 47=1:=by decide
 refine⟨⟨by rw[e,hw];omega,by rw[e,hw];simp,fun k hk A=>?_,?_⟩,by rw[e,hw]⟩
 ·rw[e,hw]at hk;omega
 ·rw[e,hw];unfold jZ;omega
theorem ND (n:Nat):∀x y:List UInt8,x.length≤n→aQ (x++47::y)=(aQ x&&aQ y):=by
 induction n with
 |zero=>
  intro x y h;have:x=[]:=List.length_eq_zero_iff.1 (by omega);subst this;obtain⟨h1,D⟩:=L6 y;rw[List.nil_append,kD _ (by simp),if_pos h1,D];rfl
 |succ n ih=>
  intro x y h
  by_cases B:x=[]
  ·subst B
   exact ih [] y (by simp)
  ·have hl:0<x.length:=List.length_pos_iff.2 B
   rw[kD (x++47::y) (by simp),kD x B]
   by_cases A:iM x
   ·rw[if_pos A,if_pos (Jg x _ B A),oz x _ 0 hl,List.drop_append_of_le_length A.2.1]
    have:0<bQ (at_ x 0):=Nat.pos_of_ne_zero A.1;exact ih _ y (by rw[List.length_drop];omega)
   ·rw[if_neg A,if_neg (fun h=>A (Uq x y B h))]
    rfl
theorem F0 (x y:List UInt8):aQ (x++47::y)=(aQ x&&aQ y):=ND _ x y (Nat.le_refl _)
def aH:List UInt8→List (List UInt8)
 |[]=>[[]]
 |b::l=>if b=47 then[]::aH l else(b::(aH l).headD [])::(aH l).tail
theorem Db (l:List UInt8):aH l≠[]:=by
 cases l with
 |nil=>simp[aH]
 |cons b l=>unfold aH;split<;>simp
theorem rR (x:List UInt8) (h:(47:UInt8)∉x):aH x=[x]:=by
 induction x with
 |nil=>rfl
 |cons b x ih=>
  have B:b≠47:=fun e=>h (by simp[e])
  rw[aH,if_neg B,ih (fun A=>h (List.mem_cons_of_mem _ A))];rfl
theorem Fv (x y:List UInt8):aH (x++47::y)=aH x++aH y:=by
 induction x with
 |nil=>simp[aH]
 |cons b x ih=>
  by_cases A:b=47
  ·subst A
   simp[aH,ih]
  ·rw[List.cons_append,aH,if_neg A,aH,if_neg A,ih]
   cases B:aH x with
   |nil=>exact absurd B (Db x)
   |cons p ps=>simp
theorem Ej (l:List UInt8):∀p∈aH l,(47:UInt8)∉p:=by
 induction l with
 |nil=>simp[aH]
 |cons b l ih=>
  unfold aH
  by_cases A:b=47
  ·rw[if_pos A]
   intro p hp;rcases List.mem_cons.1 hp with rfl|hp
   ·simp
   ·exact ih p hp
  ·rw[if_neg A]
   cases B:aH l with
   |nil=>exact absurd B (Db l)
   |cons q qs=>
    rw[B]at ih;intro p hp;rcases List.mem_cons.1 hp with rfl|hp
    ·simp only[List.headD_cons]
     intro h;rcases List.mem_cons.1 h with h|h
     ·exact A h.symm
     ·exact ih q (by simp) h
    ·exact ih p (List.mem_cons_of_mem _ hp)
theorem Fw (l:List UInt8):(0≤indexByte l 47→aH l=l.take (indexByte l 47).toNat::aH (l.drop ((indexByte l 47).toNat+1)))∧(¬0≤indexByte l 47→aH l=[l]):=by
 induction l with
 |nil=>exact⟨fun h=>by simp[indexByte]at h,fun _=>rfl⟩
 |cons b l ih=>
  have E:=indexByte_ge l 47
  by_cases A:b=47
  ·subst A
   have e:indexByte ((47:UInt8)::l) 47=0:=by simp[indexByte]
   rw[e];exact⟨fun _=>by simp[aH],fun h=>absurd (by omega) h⟩
  ·have D:(b==47)=false:=by simpa using A
   by_cases hi:indexByte l 47=-1
   ·have e:indexByte (b::l) 47=-1:=by simp[indexByte,D,hi]
    rw[e];refine⟨fun h=>absurd h (by omega),fun _=>?_⟩;rw[aH,if_neg A,ih.2 (by omega)];rfl
   ·have B:(indexByte l 47==-1)=false:=by simpa using hi
    have e:indexByte (b::l) 47=indexByte l 47+1:=by simp[indexByte,D,B]
    rw[e,show(indexByte l 47+1).toNat=(indexByte l 47).toNat+1 by omega];refine⟨fun _=>?_,fun h=>absurd (by omega) h⟩;rw[aH,if_neg A,ih.1 (by omega)];rfl
theorem M1 (n:Nat):∀l:List UInt8,l.length≤n→aQ l=true→∀p∈aH l,aQ p=true:=by
 induction n with
 |zero=>
  intro l h _ p hp;have:l=[]:=List.length_eq_zero_iff.1 (by omega);subst this;simp[aH]at hp;subst hp;rfl
 |succ n ih=>
  intro l h A p hp;obtain⟨h1,D⟩:=Fw l
  by_cases hi:0≤indexByte l 47
  ·rw[h1 hi]at hp
   obtain⟨k,hk⟩:∃k:Nat,indexByte l 47=k:=⟨(indexByte l 47).toNat,by omega⟩
   obtain⟨E,B⟩:=List.getElem?_eq_some_iff.1 (indexByte_some hk).1;rw[hk]at hp
   have hs:l=l.take k++47::l.drop (k+1):=by
    rw[←B,List.getElem_cons_drop,List.take_append_drop]
   rw[hs,F0,Bool.and_eq_true]at A;rcases List.mem_cons.1 hp with rfl|hp
   ·exact A.1
   ·exact ih _ (by rw[List.length_drop];omega) A.2 p hp
  ·rw[D hi]at hp
   rcases List.mem_cons.1 hp with rfl|hp
   ·exact A
   ·cases hp
def cr (c p:List UInt8):List UInt8:=if p=[]∨p=[46]then c else if c=[]then p else c++47::p
def Gv:List UInt8→List (List UInt8)→Option (List UInt8)
 |c,[]=>some c
 |c,p::ps=>if p=[46,46]then none else Gv (cr c p) ps
def Bt:List UInt8→List (List UInt8)→Option (List UInt8)
 |c,[]=>some c
 |c,p::ps=>if p=[46,46]∨200<(cr c p).length then none else Bt (cr c p) ps
theorem UW (c p:List UInt8):c.length≤(cr c p).length:=by
 unfold cr;split
 ·exact Nat.le_refl _
 ·split
  ·next h=>simp[h]
  ·simp
theorem ad3 (ps:List (List UInt8)):∀c a,Gv c ps=some a→c.length≤a.length:=by
 induction ps with
 |nil=>intro c a h;cases h;exact Nat.le_refl _
 |cons p ps ih=>
  intro c a h;unfold Gv at h;split at h
  ·cases h
  ·exact Nat.le_trans (UW c p) (ih _ _ h)
theorem ad4 (ps:List (List UInt8)):∀c,c.length≤200→Bt c ps=(Gv c ps).bind fun a=>if a.length≤200 then some a else none:=by
 induction ps with
 |nil=>intro c h;simp[Bt,Gv,h]
 |cons p ps ih=>
  intro c h;unfold Bt Gv
  by_cases h1:p=[46,46]
  ·rw[if_pos (.inl h1),if_pos h1];rfl
  ·by_cases A:200<(cr c p).length
   ·rw[if_pos (.inr A),if_neg h1]
    cases B:Gv (cr c p) ps with
    |none=>rfl
    |some a=>
     have:=ad3 ps _ _ B;rw[Option.bind_some,if_neg (by omega)]
   ·rw[if_neg (fun h=>h.elim h1 A),if_neg h1]
    exact ih _ (by omega)
def aF (T P:Int) (l:List UInt8):List UInt8 × Int:=
 if aQ l=false then([],T)else if l.headD 47=47 then([],P)else
  match Gv [] (aH l)with
  |none=>([],P)
  |some a=>if a=[]∨200<a.length then([],P)else(a,0)
def kI (ps:List (List UInt8)):List (List UInt8):=ps.filter fun p=>!(p==[]||p==[46])
def bu:List (List UInt8)→List UInt8
 |[]=>[]
 |[p]=>p
 |p::q::ps=>p++47::bu (q::ps)
theorem Nu (qs:List (List UInt8)) (p:List UInt8):qs≠[]→bu (qs++[p])=bu qs++47::p:=by
 induction qs with
 |nil=>intro h;exact absurd rfl h
 |cons q qs ih=>
  intro _
  cases qs with
  |nil=>rfl
  |cons r qs=>
   have:=ih (by simp);simp only[List.cons_append]at this⊢;rw[bu,this,bu];simp
theorem zD (qs:List (List UInt8)) (h:∀q∈qs,q≠[]):bu qs=[]↔qs=[]:=by
 constructor
 ·intro e
  cases qs with
  |nil=>rfl
  |cons q qs=>
   cases qs with
   |nil=>exact absurd e (h q (by simp))
   |cons r qs=>simp[bu]at e
 ·rintro rfl;rfl
theorem OP (ps:List (List UInt8)):∀q∈kI ps,q≠[]∧q≠[46]∧q∈ps:=by
 intro q B;obtain⟨h1,A⟩:=List.mem_filter.1 B;simp at A;exact⟨A.1,A.2,h1⟩
theorem ad2 (ps:List (List UInt8)):∀qs:List (List UInt8),(∀q∈qs,q≠[])→
 Gv (bu qs) ps=if[46,46]∈ps then none else some (bu (qs++kI ps)):=by
 induction ps with
 |nil=>intro qs _;simp[Gv,kI]
 |cons p ps ih=>
  intro qs D;unfold Gv
  by_cases h1:p=[46,46]
  ·rw[if_pos h1,if_pos (by simp[h1])]
  ·rw[if_neg h1]
   have hm:([46,46]∈p::ps)↔[46,46]∈ps:=by
    rw[List.mem_cons];exact⟨fun h=>h.elim (fun e=>absurd e.symm h1) id,.inr⟩
   by_cases A:p=[]∨p=[46]
   ·have e:cr (bu qs) p=bu qs:=by unfold cr;rw[if_pos A]
    have k:kI (p::ps)=kI ps:=by
     unfold kI;rw[List.filter_cons,if_neg (by simpa using fun h=>A.resolve_left h)]
    rw[e,ih qs D,k];simp only[hm]
   ·have k:kI (p::ps)=p::kI ps:=by
     unfold kI;rw[List.filter_cons,if_pos (by simpa using A)]
    have e:cr (bu qs) p=bu (qs++[p]):=by
     unfold cr;rw[if_neg A]
     by_cases B:qs=[]
     ·subst B;rfl
     ·rw[if_neg (fun h=>B ((zD qs D).1 h)),Nu qs p B]
    rw[e,ih (qs++[p]) (by
     intro q B;rcases List.mem_append.1 B with h|h
     ·exact D q h
     ·simp at h;subst h;exact fun e=>A (.inl e)),k]
    simp only[hm,List.append_assoc,List.singleton_append]
theorem QJ (l:List UInt8):Gv [] (aH l)=if[46,46]∈aH l then none else some (bu (kI (aH l))):=by
 have:=ad2 (aH l) [] (by simp)
 rwa [List.nil_append]at this
theorem xR (T P:Int) (hT:T≠0) (hP:P≠0) (l a:List UInt8):aF T P l=(a,0)↔
 (aQ l=true∧l.headD 47≠47∧[46,46]∉aH l∧a=bu (kI (aH l))∧kI (aH l)≠[]∧a.length≤200):=by
 unfold aF;rw[QJ];have hk:∀q∈kI (aH l),q≠[]:=fun q G=>(OP _ q G).1
 cases H:aQ l with
 |false=>simp[hT]
 |true=>
  rw[if_neg (by simp)]
  by_cases A:l.headD 47=47
  ·rw[if_pos A]
   exact⟨fun h=>absurd (Prod.mk.injEq .. ▸h).2 hP,fun h=>absurd A h.2.1⟩
  ·rw[if_neg A]
   by_cases hm:[46,46]∈aH l
   ·rw[if_pos hm]
    simp[hP,hm]
   ·rw[if_neg hm]
    simp only
    by_cases B:kI (aH l)=[]
    ·rw[if_pos (.inl (by rw[B];rfl))]
     simp[hP,B]
    ·have E:bu (kI (aH l))≠[]:=fun e=>B ((zD _ hk).1 e)
     by_cases D:200<(bu (kI (aH l))).length
     ·rw[if_pos (.inr D)]
      constructor
      ·intro h;simp[hP]at h
      ·rintro⟨_,_,_,rfl,_,h⟩;omega
     ·rw[if_neg (fun h=>h.elim E D)]
      constructor
      ·intro h
       obtain⟨rfl,_⟩:=Prod.mk.injEq .. ▸h;exact⟨trivial,A,hm,rfl,B,by omega⟩
      ·rintro⟨_,_,_,rfl,_,_⟩;rfl
theorem M3 (qs:List (List UInt8)) (hq:qs≠[]) (h:∀q∈qs,(47:UInt8)∉q):aH (bu qs)=qs:=by
 induction qs with
 |nil=>exact absurd rfl hq
 |cons q qs ih=>
  cases qs with
  |nil=>exact rR q (h q (by simp))
  |cons r qs=>
   rw[bu,Fv,rR q (h q (by simp)),ih (by simp) (fun p A=>h p (List.mem_cons_of_mem _ A))];rfl
theorem Sq (qs:List (List UInt8)) (h:∀q∈qs,aQ q=true):aQ (bu qs)=true:=by
 induction qs with
 |nil=>rfl
 |cons q qs ih=>
  cases qs with
  |nil=>exact h q (by simp)
  |cons r qs=>
   rw[bu,F0,h q (by simp),ih (fun p A=>h p (List.mem_cons_of_mem _ A))];rfl
theorem QT (qs:List (List UInt8)) (hq:qs≠[]) (h:∀q∈qs,q≠[]∧(47:UInt8)∉q):(bu qs).headD 47≠47:=by
 have first:∀q:List UInt8,q≠[]→(47:UInt8)∉q→∀z:List UInt8,(q++z).headD 47≠47:=by
  intro q hq B z
  cases q with
  |nil=>exact absurd rfl hq
  |cons b q=>exact fun e=>B (by simp at e;simp[e])
 cases qs with
 |nil=>exact absurd rfl hq
 |cons q qs=>
  obtain⟨h1,A⟩:=h q (by simp)
  cases qs with
  |nil=>
   have:=first q h1 A []
   rwa [List.append_nil]at this
  |cons r qs=>exact first q h1 A _
theorem IW (T P:Int) (hT:T≠0) (hP:P≠0) (l a:List UInt8) (h:aF T P l=(a,0)):
 ∃qs:List (List UInt8),qs≠[]∧(∀q∈qs,q≠[]∧q≠[46]∧q≠[46,46]∧(47:UInt8)∉q∧aQ q=true)∧a=bu qs∧kI (aH l)=qs∧a.length≤200∧aQ l=true∧l.headD 47≠47∧[46,46]∉aH l:=by
 obtain⟨h1,D,B,E,G,H⟩:=(xR T P hT hP l a).1 h;refine⟨_,G,fun q I=>?_,E,rfl,H,h1,D,B⟩;obtain⟨J,L,A⟩:=OP _ q I;exact⟨J,L,fun e=>B (e▸A),Ej l q A,M1 _ l (Nat.le_refl _) h1 q A⟩
theorem Yp (qs:List (List UInt8)) (h:∀q∈qs,q≠[]∧q≠[46]):kI qs=qs:=
 List.filter_eq_self.2 fun q A=>by simpa using h q A
theorem LB (T P:Int) (hT:T≠0) (hP:P≠0) (qs:List (List UInt8)) (x:List UInt8) (hq:qs≠[]) (h:∀q∈qs,q≠[]∧q≠[46]∧q≠[46,46]∧(47:UInt8)∉q∧aQ q=true)
 (hl:(bu qs).length≤200) (ht:aQ x=true) (h0:x.headD 47≠47) (hp:∃A B,aH x=A++qs++B∧(∀p∈A,p=[]∨p=[46])∧(∀p∈B,p=[]∨p=[46])):aF T P x=(bu qs,0):=by
 obtain⟨A,B,hp,hA,D⟩:=hp;have none_:∀C:List (List UInt8),(∀p∈C,p=[]∨p=[46])→kI C=[]:=fun C E=>List.filter_eq_nil_iff.2 fun p hp=>by simpa using fun e=>(E p hp).resolve_left e
 have hk:kI (aH x)=qs:=by
  have e:kI (aH x)=kI A++kI qs++kI B:=by rw[hp];unfold kI;rw[List.filter_append,List.filter_append]
  rw[e,none_ A hA,none_ B D,Yp qs fun q hq=>⟨(h q hq).1,(h q hq).2.1⟩];simp
 refine(xR T P hT hP x _).2 ⟨ht,h0,?_,by rw[hk],by rw[hk];exact hq,hl⟩;rw[hp];intro hm;rcases List.mem_append.1 hm with hm|hm
 ·rcases List.mem_append.1 hm with hm|hm
  ·rcases hA _ hm with e|e<;>cases e
  ·exact(h _ hm).2.2.1 rfl
 ·rcases D _ hm with e|e<;>cases e
theorem wZ (T P:Int) (hT:T≠0) (hP:P≠0) (l a:List UInt8) (h:aF T P l=(a,0)):aF T P a=(a,0)∧a≠[]∧a.headD 47≠47∧a.length≤200:=by
 obtain⟨B,D,A,rfl,_,hl,_⟩:=IW T P hT hP l a h;have E:=QT B D fun q h=>⟨(A q h).1,(A q h).2.2.2.1⟩
 refine⟨LB T P hT hP B _ D A hl (Sq B fun q h=>(A q h).2.2.2.2) E ⟨[],[],by rw[M3 B D fun q h=>(A q h).2.2.2.1];simp,by simp,by simp⟩,fun e=>D ((zD B fun q h=>(A q h).1).1 e),E,hl⟩
theorem Qm (T P:Int) (l:List UInt8):aF T P l=if aQ l=false then([],T)else if l.head? =some 47 then([],P)else
 match Bt [] (aH l)with
 |none=>([],P)
 |some a=>if a=[]then([],P)else(a,0):=by
 unfold aF;split
 ·rfl
 ·by_cases hl:l=[]
  ·subst hl
   simp[aH,Bt,cr]
  ·have B:l.headD 47=47↔l.head? =some 47:=by
    cases l with
    |nil=>exact absurd rfl hl
    |cons b t=>simp
   simp only[B];split
   ·rfl
   ·rw[ad4 _ [] (by simp)]
    cases D:Gv [] (aH l)with
    |none=>rfl
    |some a=>
     rw[Option.bind_some]
     by_cases A:a.length≤200
     ·rw[if_pos A]
      by_cases ha:a=[]
      ·simp[ha]
      ·simp[ha];omega
     ·rw[if_neg A]
      show(if a=[]∨200<a.length then _ else _)=_;rw[if_pos (.inr (by omega))]
def iV (T P:Int) (l:List UInt8):Int:=if aQ l=false then T else if l=[]∨200<l.length then P else 0
end Path
namespace Rec
open Path
variable {k v:List UInt8} {n:Nat}
def Gn (n:Nat):UInt8:=UInt8.ofNat (48+n % 10)
theorem xV (n:Nat):(Gn n).toNat=48+n % 10:=by
 unfold Gn;rw[UInt8.toNat_ofNat'];omega
def aM (n:Nat):List UInt8:=if n<10 then[Gn n]else aM (n / 10)++[Gn n]
termination_by n
decreasing_by omega
theorem k5 (h:n<10):aM n=[Gn n]:=by rw[aM,if_pos h]
theorem o8 (h:¬n<10):aM n=aM (n / 10)++[Gn n]:=by rw[aM,if_neg h]
theorem oA (n:Nat):0<(aM n).length:=by
 by_cases h:n<10
 ·rw[k5 h];simp
 ·rw[o8 h];simp
theorem tj (n:Nat):0<n→10 ^ ((aM n).length - 1)≤n∧n<10 ^ (aM n).length:=by
 induction n using Nat.strongRecOn with
 |ind n ih=>
  intro D
  by_cases h:n<10
  ·rw[k5 h]
   simp;omega
  ·rw[o8 h,List.length_append,List.length_singleton,Nat.add_sub_cancel]
   obtain⟨h1,B⟩:=ih (n / 10) (by omega) (by omega);have A:=oA (n / 10)
   have e:10 ^ (aM (n / 10)).length=10*10 ^ ((aM (n / 10)).length - 1):=by
    rw[←Nat.pow_succ',Nat.succ_eq_add_one,Nat.sub_add_cancel A]
   refine⟨by rw[e];omega,?_⟩;rw[Nat.pow_succ];omega
theorem uB {a b:Nat} (h:a≤b):(aM a).length≤(aM b).length:=by
 by_cases A:a=0
 ·subst A
  rw[k5 (by omega)];exact oA b
 ·obtain⟨h1,_⟩:=tj a (by omega)
  obtain⟨_,D⟩:=tj b (by omega);have B:10 ^ ((aM a).length - 1)<10 ^ (aM b).length:=by omega
  have:=(Nat.pow_lt_pow_iff_right (by omega:1<10)).1 B;have:=oA a;omega
def pO (m:Nat):Nat:=if(aM (m+(aM m).length)).length=(aM m).length then m+(aM m).length else m+(aM m).length+1
theorem yk (m:Nat):m≤pO m∧pO m≤m+(aM m).length+1:=by
 unfold pO;split<;>omega
theorem uA (n k:Nat) (hk:0<k) (h:n<10 ^ k):(aM n).length≤k:=by
 by_cases A:n=0
 ·subst A
  rw[k5 (by omega)];exact hk
 ·obtain⟨h1,_⟩:=tj n (by omega)
  have:=(Nat.pow_lt_pow_iff_right (by omega:1<10)).1 (Nat.lt_of_le_of_lt h1 h);omega
theorem Yu (d:Nat):d+1<10 ^ (d+1) - 10 ^ d:=by
 induction d with
 |zero=>decide
 |succ d ih=>
  have A:10 ^ (d+1+1)=10*10 ^ (d+1):=Nat.pow_succ';have B:10 ^ (d+1)=10*10 ^ d:=Nat.pow_succ';omega
theorem CK (m:Nat) (hm:0<m):(aM (pO m)).length+m=pO m:=by
 unfold pO
 by_cases h:(aM (m+(aM m).length)).length=(aM m).length
 ·rw[if_pos h,h];omega
 ·rw[if_neg h]
  obtain⟨d,hd⟩:∃d,(aM m).length=d+1:=⟨(aM m).length - 1,by have:=oA m;omega⟩
  obtain⟨h1,A⟩:=tj m hm;rw[hd]at h h1 A⊢
  have B:(aM (m+(d+1))).length≥d+1:=by
   have:=uB (show m≤m+(d+1) by omega);omega
  have hl:=Yu (d+1);have hle:m+(d+1)+1<10 ^ (d+1+1):=by omega
  have D:=uA (m+(d+1)) (d+1+1) (by omega) (by omega);have E:=uA (m+(d+1)+1) (d+1+1) (by omega) hle;have G:=uB (show m+(d+1)≤m+(d+1)+1 by omega);omega
def aN (b:UInt8):Bool:=decide (48≤b.toNat∧b.toNat≤57)
def ki (l:List UInt8):Nat:=l.foldl (fun n b=>n*10+(b.toNat - 48)) 0
theorem F4 (l:List UInt8) (b:UInt8):ki (l++[b])=ki l*10+(b.toNat - 48):=by simp[ki]
theorem Ie (l:List UInt8) (h:∀b∈l,aN b=true):ki l<10 ^ l.length:=by
 suffices H:∀(l:List UInt8) (n k:Nat),(∀b∈l,aN b=true)→n<10 ^ k→l.foldl (fun n b=>n*10+(b.toNat - 48)) n<10 ^ (k+l.length) by
  have:=H l 0 0 h (by decide)
  rwa [Nat.zero_add]at this
 intro l
 induction l with
 |nil=>intro n k _ A;exact A
 |cons b l ih=>
  intro n k hl A;have B:=hl b (by simp);simp only[aN,decide_eq_true_eq]at B;have:=ih (n*10+(b.toNat - 48)) (k+1) (fun c hc=>hl c (List.mem_cons_of_mem _ hc)) (by rw[Nat.pow_succ];omega)
  rwa [show k+(b::l).length=k+1+l.length by rw[List.length_cons];omega]
def bA (l:List UInt8):Option Nat:=if l.length<1∨18<l.length then none else if l.all aN then some (ki l)else none
def pk (k v:List UInt8):Bool:=!k.contains 61&&!k.isEmpty&&aQ k&&aQ v&&decide (k.length+v.length≤100000)
def pJ (k v:List UInt8):List UInt8:=32::k++61::v++[10]
theorem qj (k v:List UInt8):(pJ k v).length=k.length+v.length+3:=by
 simp only[pJ,List.length_append,List.length_cons,List.length_nil];omega
def jy (k v:List UInt8):List UInt8:=aM (pO (pJ k v).length)++pJ k v
theorem yj (k v:List UInt8):(jy k v).length=pO (pJ k v).length:=by
 rw[jy,List.length_append];exact CK _ (by rw[qj];omega)
def jd (l:List UInt8):Nat:=(l.takeWhile aN).length
def aZ (R T:Int) (l:List UInt8):Except Int (List UInt8 × List UInt8 × Nat):=
 if jd l<1∨7<jd l∨l.getD 0 0=48∨jd l=l.length∨l.getD (jd l) 0≠32 then .error R
 else if l.length<ki (l.take (jd l))∨ki (l.take (jd l))<jd l+4∨l.getD (ki (l.take (jd l)) - 1) 0≠10 then .error R
 else
  let line:=(l.drop (jd l+1)).take (ki (l.take (jd l)) - 1 - (jd l+1))
  if indexByte line 61<1 then .error R
  else if aQ line=false then .error T
  else .ok (line.take (indexByte line 61).toNat,line.drop ((indexByte line 61).toNat+1),ki (l.take (jd l)))
def pw (R T:Int):Nat→List UInt8→List (List UInt8 × List UInt8)→List (List UInt8 × List UInt8) × Int
 |0,_,acc=>(acc,0)
 |n+1,l,acc=>if l=[]then(acc,0)else match aZ R T l with
  |.error e=>([],e)
  |.ok (k,v,m)=>pw R T n (l.drop m) (acc++[(k,v)])
def aO (R T:Int) (l:List UInt8):List (List UInt8 × List UInt8) × Int:=pw R T l.length l []
theorem uY {R T:Int} {l:List UInt8} {m:Nat} (h:aZ R T l=.ok (k,v,m)):0<m∧m≤l.length:=by
 unfold aZ at h;split at h
 ·cases h
 ·split at h
  ·cases h
  ·next A=>
   dsimp only at h
   split at h
   ·cases h
   ·split at h
    ·cases h
    ·cases h
     omega
theorem Kg (R T:Int) (n:Nat):∀m l acc,l.length≤n→l.length≤m→pw R T n l acc=pw R T m l acc:=by
 induction n with
 |zero=>
  intro m l acc h _;obtain rfl:l=[]:=List.length_eq_zero_iff.1 (by omega)
  cases m<;>simp[pw]
 |succ n ih=>
  intro m l acc h1 B
  cases m with
  |zero=>
   obtain rfl:l=[]:=List.length_eq_zero_iff.1 (by omega);simp[pw]
  |succ m=>
   unfold pw
   by_cases hl:l=[]
   ·rw[if_pos hl,if_pos hl]
   ·rw[if_neg hl,if_neg hl]
    cases hs:aZ R T l with
    |error e=>rfl
    |ok x=>
     obtain⟨k,v,j⟩:=x;have:=uY hs;have A:0<l.length:=List.length_pos_iff.2 hl;exact ih m _ _ (by rw[List.length_drop];omega) (by rw[List.length_drop];omega)
def lg (R T:Int) (l:List UInt8) (acc:List (List UInt8 × List UInt8)):List (List UInt8 × List UInt8) × Int:=pw R T l.length l acc
theorem tO (R T:Int) (acc:List (List UInt8 × List UInt8)):lg R T [] acc=(acc,0):=rfl
theorem kM (R T:Int) (l:List UInt8) (hl:l≠[]) (acc:List (List UInt8 × List UInt8)):lg R T l acc=match aZ R T l with
 |.error e=>([],e)
 |.ok (k,v,m)=>lg R T (l.drop m) (acc++[(k,v)]):=by
 have B:0<l.length:=List.length_pos_iff.2 hl;unfold lg;obtain⟨n,A⟩:∃n,l.length=n+1:=⟨l.length - 1,by omega⟩
 rw[A,pw,if_neg hl]
 cases hs:aZ R T l with
 |error e=>rfl
 |ok x=>
  obtain⟨k,v,j⟩:=x;have:=uY hs;exact Kg R T _ _ _ _ (by rw[List.length_drop];omega) (Nat.le_refl _)
theorem QS (c:UInt8) (hc:0<c.toNat∧c.toNat<128) (x y:List UInt8) (hx:x≠[]):iM (x++c::y)→iM x:=by
 have hl:0<x.length:=List.length_pos_iff.2 hx;rintro⟨h1,h2,h3,h4⟩;have A:=oz x (c::y) 0 hl;rw[A]at h1 h2 h3 h4
 have hs:at_ (x++c::y) x.length=c.toNat:=by
  unfold at_;simp[List.getD]
 have hw:bQ (at_ x 0)≤x.length:=by
  rcases Nat.lt_or_ge x.length (bQ (at_ x 0))with h|h
  ·have:=h3 x.length h hl
   rw[hs]at this;unfold iP at this;omega
  ·exact h
 refine⟨h1,hw,fun k hk B=>?_,?_⟩
 ·have:=h3 k hk B
  rwa [oz x _ k (by omega)]at this
 ·by_cases hw:1<x.length
  ·rwa [oz x _ 1 hw]at h4
  ·unfold jZ
   omega
theorem Ji (c:UInt8) (hc:0<c.toNat∧c.toNat<128) (y:List UInt8):iM (c::y)∧bQ (at_ (c::y) 0)=1:=by
 have e:at_ (c::y) 0=c.toNat:=rfl;have hw:bQ c.toNat=1:=by unfold bQ;rw[if_neg (by omega),if_pos (by omega)]
 refine⟨⟨by rw[e,hw];omega,by rw[e,hw];simp,fun k hk A=>?_,?_⟩,by rw[e,hw]⟩
 ·rw[e,hw]at hk;omega
 ·rw[e,hw];unfold jZ;omega
theorem NC (c:UInt8) (hc:0<c.toNat∧c.toNat<128) (n:Nat):∀x y:List UInt8,x.length≤n→aQ (x++c::y)=(aQ x&&aQ y):=by
 induction n with
 |zero=>
  intro x y h;obtain rfl:x=[]:=List.length_eq_zero_iff.1 (by omega);obtain⟨h1,D⟩:=Ji c hc y;rw[List.nil_append,kD _ (by simp),if_pos h1,D];rfl
 |succ n ih=>
  intro x y h
  by_cases B:x=[]
  ·subst B
   exact ih [] y (by simp)
  ·have hl:0<x.length:=List.length_pos_iff.2 B
   rw[kD (x++c::y) (by simp),kD x B]
   by_cases A:iM x
   ·rw[if_pos A,if_pos (Jg x _ B A),oz x _ 0 hl,List.drop_append_of_le_length A.2.1]
    have:0<bQ (at_ x 0):=Nat.pos_of_ne_zero A.1;exact ih _ y (by rw[List.length_drop];omega)
   ·rw[if_neg A,if_neg (fun h=>A (QS c hc x y B h))]
    rfl
theorem Wg (c:UInt8) (hc:0<c.toNat∧c.toNat<128) (x y:List UInt8):aQ (x++c::y)=(aQ x&&aQ y):=NC c hc _ x y (Nat.le_refl _)
theorem IZ (n:Nat):aN (Gn n)=true:=by
 unfold aN;rw[xV];simp;omega
theorem xU (n:Nat):∀b∈aM n,aN b=true:=by
 induction n using Nat.strongRecOn with
 |ind n ih=>
  by_cases h:n<10
  ·rw[k5 h]
   intro b A;rw[List.mem_singleton.1 A];exact IZ n
  ·rw[o8 h]
   intro b A;rcases List.mem_append.1 A with h1|h1
   ·exact ih _ (by omega) b h1
   ·rw[List.mem_singleton.1 h1]
    exact IZ n
theorem Kz (n:Nat):ki (aM n)=n:=by
 induction n using Nat.strongRecOn with
 |ind n ih=>
  by_cases h:n<10
  ·rw[k5 h]
   show 0*10+((Gn n).toNat - 48)=n;rw[xV];omega
  ·rw[o8 h,F4,ih _ (by omega),xV]
   omega
theorem Qr (n:Nat) (hn:0<n):(aM n).getD 0 0≠48:=by
 induction n using Nat.strongRecOn with
 |ind n ih=>
  by_cases h:n<10
  ·rw[k5 h]
   intro e;have:=congrArg UInt8.toNat e;simp only[List.getD_cons_zero,xV]at this;simp at this;omega
  ·rw[o8 h]
   have:=ih (n / 10) (by omega) (by omega);have A:=oA (n / 10);rw[List.getD,List.getElem?_append_left A];exact this
theorem Eo (d x:List UInt8) (hd:∀b∈d,aN b=true) (hx:∀b r,x=b::r→aN b=false):(d++x).takeWhile aN=d:=by
 induction d with
 |nil=>
  cases x with
  |nil=>rfl
  |cons b r=>rw[List.nil_append,List.takeWhile_cons,hx b r rfl];rfl
 |cons c d ih=>
  rw[List.cons_append,List.takeWhile_cons,hd c (by simp),if_pos rfl,ih fun b A=>hd b (List.mem_cons_of_mem _ A)]
theorem index_first (x y:List UInt8) (c:UInt8) (h:x.contains c=false):indexByte (x++c::y) c=x.length:=by
 induction x with
 |nil=>simp[indexByte]
 |cons b x ih=>
  rw[List.contains_cons,Bool.or_eq_false_iff]at h
  have A:(b==c)=false:=by
   have:=h.1;rw[beq_eq_false_iff_ne]at this⊢;exact fun e=>this e.symm
  have hi:=ih h.2;have B:(indexByte (x++c::y) c==-1)=false:=by rw[hi,beq_eq_false_iff_ne];omega
  have e:indexByte (b::(x++c::y)) c=indexByte (x++c::y) c+1:=by simp[indexByte,A,B]
  rw[List.cons_append,e,hi,List.length_cons];rfl
theorem sJ (h:pk k v=true):k.contains 61=false∧k≠[]∧aQ k=true∧aQ v=true∧k.length+v.length≤100000:=by
 simp only[pk,Bool.and_eq_true,Bool.not_eq_true',decide_eq_true_eq,List.isEmpty_eq_false_iff]at h;exact⟨h.1.1.1.1,h.1.1.1.2,h.1.1.2,h.1.2,h.2⟩
theorem xj (h:pk k v=true):∃d,jy k v=d++pJ k v∧(∀b∈d,aN b=true)∧ki d=(jy k v).length∧1≤d.length∧d.length≤7∧d.getD 0 0≠48∧(jy k v).length=d.length+k.length+v.length+3:=by
 obtain⟨_,_,_,_,hl⟩:=sJ h;have D:=qj k v;have A:0<(pJ k v).length:=by omega
 refine⟨aM (pO (pJ k v).length),rfl,xU _,by rw[Kz,yj],oA _,?_,Qr _ (by have:=(yk (pJ k v).length).1;omega),?_⟩
 ·refine uA _ 7 (by omega) ?_
  have h1:=(yk (pJ k v).length).2;have B:=uA (pJ k v).length 6 (by omega) (by omega);omega
 ·rw[jy,List.length_append];omega
theorem Ho (R T:Int) (h:pk k v=true) (rest:List UInt8):aZ R T (jy k v++rest)=.ok (k,v,(jy k v).length):=by
 obtain⟨m1,m2,m3,m4,m5⟩:=sJ h;obtain⟨d,hd,A,hval,J,L,G,hlen⟩:=xj h;have hk:0<k.length:=List.length_pos_iff.2 m2;have hl:jy k v++rest=d++(32::(k++61::v++10::rest)):=by rw[hd];simp[pJ]
 have hN:jd (jy k v++rest)=d.length:=by
  unfold jd;rw[hl,Eo d _ A fun b r e=>by cases e;decide]
 have E:(jy k v++rest).length=d.length+(k.length+v.length+3)+rest.length:=by rw[List.length_append,hlen];omega
 have I:(jy k v++rest).take d.length=d:=by rw[hl];exact List.take_left
 have H:(jy k v++rest).drop (d.length+1)=k++61::v++10::rest:=by
  rw[hl,←List.drop_drop,List.drop_left];rfl
 have g0:(jy k v++rest).getD 0 0=d.getD 0 0:=by
  rw[hl,List.getD,List.getElem?_append_left (by omega)];rfl
 have g1:(jy k v++rest).getD d.length 0=32:=by
  rw[hl,List.getD,List.getElem?_append_right (Nat.le_refl _),Nat.sub_self];rfl
 have D:(k++61::v).length=k.length+v.length+1:=by rw[List.length_append,List.length_cons];omega
 have g2:(jy k v++rest).getD ((jy k v).length - 1) 0=10:=by
  rw[hl,List.getD,hlen,List.getElem?_append_right (by omega),show d.length+k.length+v.length+3 - 1 - d.length=(k++61::v).length+1 by rw[D];omega,List.getElem?_cons_succ,List.getElem?_append_right (Nat.le_refl _),Nat.sub_self];rfl
 unfold aZ;rw[hN,I,hval,if_neg (by rw[E];rintro(e|e|e|e|e);omega;omega;exact G (g0▸e);omega;exact e g1),if_neg (by rw[E];rintro(e|e|e);omega;omega;exact e g2),H]
 have B:(k++61::v++10::rest).take ((jy k v).length - 1 - (d.length+1))=k++61::v:=by
  rw[hlen,show d.length+k.length+v.length+3 - 1 - (d.length+1)=(k++61::v).length by rw[D];omega];exact List.take_left
 rw[B]
 dsimp only
 rw[index_first k v 61 m1,if_neg (by omega),Wg 61 (by decide) k v,m3,m4,if_neg (by simp),Int.toNat_natCast,List.take_left];rw[←List.drop_drop,List.drop_left];rfl
def bc (l:List (List UInt8 × List UInt8)):List UInt8:=(l.map fun r=>jy r.1 r.2).flatten
theorem Ni (R T:Int) (l:List (List UInt8 × List UInt8)):∀(rest:List UInt8) acc,(∀r∈l,pk r.1 r.2=true)→lg R T (bc l++rest) acc=lg R T rest (acc++l):=by
 induction l with
 |nil=>intro rest acc _;simp[bc]
 |cons r l ih=>
  intro rest acc h;have B:=h r (by simp);have e:bc (r::l)++rest=jy r.1 r.2++(bc l++rest):=by simp[bc]
  have A:jy r.1 r.2++(bc l++rest)≠[]:=by
   have E:=(yk (pJ r.1 r.2).length).1;have G:=qj r.1 r.2;intro e;have:=congrArg List.length e;rw[List.length_append,yj,List.length_nil]at this;omega
  rw[e,kM R T _ A,Ho R T B];simp only;rw[List.drop_left,ih rest _ fun x D=>h x (List.mem_cons_of_mem _ D)];simp
end Rec
end Go.Proofs.YtdhibldkldlfpaaGreatDoor
