/- Merged. -/
import Derived.Lib.ValidU
import Derived.Lib.IndexLaws
namespace Go.Proofs.YtdhibldkldlfpaaGreatDoor
namespace Path
end Path
set_option linter.unusedVariables false
open Go.Lib
namespace Path
def br (c:Nat):Nat:=if c=0 then 0 else if c<128 then 1 else if 194≤c∧c<224 then 2 else if 224≤c∧c<240 then 3 else if 240≤c∧c<245 then 4 else 0
def at_ (l:List UInt8) (k:Nat):Nat:=(l.getD k 0).toNat
def ch (c:Nat):Prop:=128≤c∧c≤191
instance (c:Nat):Decidable (ch c):=inferInstanceAs (Decidable (_∧_))
def dw (n c b:Nat):Prop:=(n=3∧(c=224∧b<160∨c=237∧159<b))∨(n=4∧(c=240∧b<144∨c=244∧143<b))
instance (n c b:Nat):Decidable (dw n c b):=inferInstanceAs (Decidable (_∨_))
def b7 (l:List UInt8):Prop:=
 br (at_ l 0)≠0∧br (at_ l 0)≤l.length∧(∀k,k<br (at_ l 0)→0<k→ch (at_ l k))∧¬dw (br (at_ l 0)) (at_ l 0) (at_ l 1)
instance (l:List UInt8):Decidable (b7 l):=inferInstanceAs (Decidable (_∧_∧_∧_))
def j4:Nat→List UInt8→Bool
 |0,_=>true
 |n+1,l=>if l=[]then true else if b7 l then j4 n (l.drop (br (at_ l 0)))else false
def aQ (l:List UInt8):Bool:=j4 l.length l
theorem OV (c:Nat):br c≤4:=by unfold br;repeat' split
                              all_goals omega
theorem Bd (n:Nat):∀m l,l.length≤n→l.length≤m→j4 n l=j4 m l:=by
 induction n with
 |zero=>
  intro m l h _;have:l=[]:=List.length_eq_zero_iff.1 (by omega);subst this
  cases m<;>simp[j4]
 |succ n ih=>
  intro m l h1 D
  cases m with
  |zero=>
   have:l=[]:=List.length_eq_zero_iff.1 (by omega);subst this;simp[j4]
  |succ m=>
   unfold j4
   by_cases hl:l=[]
   ·rw[if_pos hl,if_pos hl]
   ·rw[if_neg hl,if_neg hl]
    by_cases A:b7 l
    ·rw[if_pos A,if_pos A]
     have:0<br (at_ l 0):=Nat.pos_of_ne_zero A.1;have B:0<l.length:=List.length_pos_iff.2 hl;exact ih m _ (by rw[List.length_drop];omega) (by rw[List.length_drop];omega)
    ·rw[if_neg A,if_neg A]
theorem qc:aQ []=true:=rfl
theorem dY (l:List UInt8) (hl:l≠[]):aQ l=if b7 l then aQ (l.drop (br (at_ l 0)))else false:=by
 have D:0<l.length:=List.length_pos_iff.2 hl;unfold aQ;obtain⟨n,B⟩:∃n,l.length=n+1:=⟨l.length - 1,by omega⟩
 rw[B,j4,if_neg hl]
 by_cases A:b7 l
 ·rw[if_pos A,if_pos A]
  have:0<br (at_ l 0):=Nat.pos_of_ne_zero A.1;exact Bd _ _ _ (by rw[List.length_drop];omega) (Nat.le_refl _)
 ·rw[if_neg A,if_neg A]
theorem get_at (l:List UInt8) (k:Nat):((⟨l.toArray⟩:ByteArray).get! k).toNat=at_ l k:=by
 unfold at_ ByteArray.get!;simp only[Array.getElem!_eq_getD]
 by_cases h:k<l.length
 ·simp[Array.getD,List.getD,h]
 ·simp[Array.getD,List.getD,h]
  rfl
theorem GA (l:List UInt8):decodeL l=
 (if at_ l 0<128 then(at_ l 0,1)
  else if at_ l 0 / 32=6∧(1<l.length∧at_ l 1 / 64=2)then
   (if 128≤at_ l 0 % 32*64+at_ l 1 % 64 then(at_ l 0 % 32*64+at_ l 1 % 64,2)else(65533,1))
  else if at_ l 0 / 16=14∧(1<l.length∧at_ l 1 / 64=2)∧(2<l.length∧at_ l 2 / 64=2)then
   (if 2048≤at_ l 0 % 16*4096+at_ l 1 % 64*64+at_ l 2 % 64∧Utf8.valid (at_ l 0 % 16*4096+at_ l 1 % 64*64+at_ l 2 % 64:Nat)=true then(at_ l 0 % 16*4096+at_ l 1 % 64*64+at_ l 2 % 64,3)else(65533,1))
  else if at_ l 0 / 8=30∧(1<l.length∧at_ l 1 / 64=2)∧(2<l.length∧at_ l 2 / 64=2)∧(3<l.length∧at_ l 3 / 64=2)then
   (if 65536≤at_ l 0 % 8*262144+at_ l 1 % 64*4096+at_ l 2 % 64*64+at_ l 3 % 64∧Utf8.valid (at_ l 0 % 8*262144+at_ l 1 % 64*4096+at_ l 2 % 64*64+at_ l 3 % 64:Nat)=true then(at_ l 0 % 8*262144+at_ l 1 % 64*4096+at_ l 2 % 64*64+at_ l 3 % 64,4)else(65533,1))
  else(65533,1)):=by
 unfold decodeL Utf8.decode;simp only[Nat.zero_add,get_at,show(⟨l.toArray⟩:ByteArray).size=l.length by simp[ByteArray.size],Utf8.runeError,ge_iff_le,Bool.and_eq_true,decide_eq_true_eq,beq_iff_eq,and_assoc]
theorem Ev (l:List UInt8) (k:Nat):at_ l k<256:=(l.getD k 0).toNat_lt
theorem I7 (c:Nat):Utf8.valid (c:Int)=true↔(c<55296∨(57344≤c∧c≤1114111)):=by
 unfold Utf8.valid;simp only[Bool.or_eq_true,Bool.and_eq_true,decide_eq_true_eq];omega
theorem zR (l:List UInt8) (hl:l≠[]) (h0:at_ l 0≠0):
 (b7 l→¬((decodeL l).1=65533∧(decodeL l).2=1)∧(decodeL l).2=br (at_ l 0))∧(¬b7 l→(decodeL l).1=65533∧(decodeL l).2=1):=by
 have G:0<l.length:=List.length_pos_iff.2 hl;rw[GA];simp only[I7];have H:=Ev l 0;have I:=Ev l 1;have J:=Ev l 2;have L:=Ev l 3
 have key:b7 l↔br (at_ l 0)≠0∧br (at_ l 0)≤l.length∧(1<br (at_ l 0)→ch (at_ l 1))∧(2<br (at_ l 0)→ch (at_ l 2))∧(3<br (at_ l 0)→ch (at_ l 3))∧¬dw (br (at_ l 0)) (at_ l 0) (at_ l 1):=by
  have E:=OV (at_ l 0);constructor
  ·rintro⟨h1,D,A,h5⟩
   exact⟨h1,D,fun h=>A 1 h (by omega),fun h=>A 2 h (by omega),fun h=>A 3 h (by omega),h5⟩
  ·rintro⟨h1,D,A,h5,h6,h7⟩
   refine⟨h1,D,fun k hk M=>?_,h7⟩;rcases(show k=1∨k=2∨k=3 by omega)with rfl|rfl|rfl
   ·exact A hk
   ·exact h5 hk
   ·exact h6 hk
 rw[key];generalize at_ l 0=c0 at*;generalize at_ l 1=c1 at*;generalize at_ l 2=c2 at*;generalize at_ l 3=c3 at*;generalize l.length=n at*;clear key hl
 by_cases h1:c0<128
 ·have hw:br c0=1:=by unfold br;rw[if_neg h0,if_pos h1]
  rw[hw,if_pos h1];unfold dw;refine⟨fun _=>⟨by simp;omega,rfl⟩,fun h=>absurd ?_ h⟩;exact⟨by omega,by omega,fun h=>by omega,fun h=>by omega,fun h=>by omega,by omega⟩
 ·rw[if_neg h1]
  by_cases D:194≤c0∧c0<224
  ·have hw:br c0=2:=by unfold br;rw[if_neg h0,if_neg h1,if_pos D]
   rw[hw]
   by_cases hc:1<n∧c1 / 64=2
   ·rw[if_pos ⟨by omega,hc⟩,if_pos (by omega)]
    unfold ch dw;refine⟨fun _=>⟨by simp,rfl⟩,fun h=>absurd ?_ h⟩;exact⟨by omega,by omega,fun _=>by omega,fun h=>by omega,fun h=>by omega,by omega⟩
   ·rw[if_neg (by omega),if_neg (by omega),if_neg (by omega)]
    unfold ch;refine⟨fun h=>absurd ?_ hc,fun _=>⟨rfl,rfl⟩⟩;have:=h.2.1;have:=h.2.2.1 (by omega);omega
  ·by_cases A:224≤c0∧c0<240
   ·have hw:br c0=3:=by unfold br;rw[if_neg h0,if_neg h1,if_neg D,if_pos A]
    rw[hw,if_neg (by omega)]
    by_cases hc:(1<n∧c1 / 64=2)∧(2<n∧c2 / 64=2)
    ·rw[if_pos ⟨by omega,hc.1,hc.2⟩]
     by_cases B:dw 3 c0 c1
     ·rw[if_neg (by unfold dw at B;omega)]
      exact⟨fun h=>absurd B h.2.2.2.2.2,fun _=>⟨rfl,rfl⟩⟩
     ·rw[if_pos (by unfold dw at B;omega)]
      refine⟨fun _=>⟨by simp,rfl⟩,fun h=>absurd ?_ h⟩;unfold ch;exact⟨by omega,by omega,fun _=>by omega,fun _=>by omega,fun h=>by omega,B⟩
    ·rw[if_neg (by omega),if_neg (by omega)]
     unfold ch;refine⟨fun h=>absurd ?_ hc,fun _=>⟨rfl,rfl⟩⟩;have:=h.2.1;have:=h.2.2.1 (by omega);have:=h.2.2.2.1 (by omega);omega
   ·by_cases E:240≤c0∧c0<245
    ·have hw:br c0=4:=by unfold br;rw[if_neg h0,if_neg h1,if_neg D,if_neg A,if_pos E]
     rw[hw,if_neg (by omega),if_neg (by omega)]
     by_cases hc:(1<n∧c1 / 64=2)∧(2<n∧c2 / 64=2)∧(3<n∧c3 / 64=2)
     ·rw[if_pos ⟨by omega,hc.1,hc.2.1,hc.2.2⟩]
      by_cases B:dw 4 c0 c1
      ·rw[if_neg (by unfold dw at B;omega)]
       exact⟨fun h=>absurd B h.2.2.2.2.2,fun _=>⟨rfl,rfl⟩⟩
      ·rw[if_pos (by unfold dw at B;omega)]
       refine⟨fun _=>⟨by simp,rfl⟩,fun h=>absurd ?_ h⟩;unfold ch;exact⟨by omega,by omega,fun _=>by omega,fun _=>by omega,fun _=>by omega,B⟩
     ·rw[if_neg (by omega)]
      unfold ch;refine⟨fun h=>absurd ?_ hc,fun _=>⟨rfl,rfl⟩⟩;have:=h.2.1;have:=h.2.2.1 (by omega);have:=h.2.2.2.1 (by omega);have:=h.2.2.2.2.1 (by omega);omega
    ·have hw:br c0=0:=by unfold br;rw[if_neg h0,if_neg h1,if_neg D,if_neg A,if_neg E]
     rw[hw];refine⟨fun h=>absurd rfl h.1,fun _=>?_⟩
     by_cases g2:c0 / 32=6∧1<n∧c1 / 64=2
     ·rw[if_pos g2,if_neg (by omega)]
      exact⟨rfl,rfl⟩
     ·rw[if_neg g2,if_neg (by omega)]
      by_cases g4:c0 / 8=30∧(1<n∧c1 / 64=2)∧(2<n∧c2 / 64=2)∧(3<n∧c3 / 64=2)
      ·rw[if_pos g4,if_neg (by omega)]
       exact⟨rfl,rfl⟩
      ·rw[if_neg g4]
       exact⟨rfl,rfl⟩
theorem yN (n:Nat):∀l:List UInt8,l.length≤n→j4 n l=(validGoD n l&&!(l.contains 0)):=by
 induction n with
 |zero=>
  intro l h;have:l=[]:=List.length_eq_zero_iff.1 (by omega);subst this;rfl
 |succ n ih=>
  intro l h;unfold j4 validGoD
  by_cases hl:l=[]
  ·subst hl;rfl
  ·rw[if_neg hl,if_neg hl]
   by_cases B:at_ l 0=0
   ·have hc:l.contains 0=true:=by
     cases l with
     |nil=>exact absurd rfl hl
     |cons b t=>
      have:b=0:=UInt8.toNat_inj.1 (by simpa [at_]using B);subst this;simp
    rw[hc,if_neg (fun A=>A.1 (by rw[B];rfl))];simp
   ·obtain⟨D,H⟩:=zR l hl B
    by_cases A:b7 l
    ·rw[if_pos A,if_neg (D A).1,(D A).2]
     have hw:0<br (at_ l 0):=Nat.pos_of_ne_zero A.1;have I:0<l.length:=List.length_pos_iff.2 hl;rw[ih _ (by rw[List.length_drop];omega)]
     congr 2
     rw[Bool.eq_iff_iff];simp only[List.contains_iff_mem];constructor
     ·exact fun h=>List.mem_of_mem_drop h
     ·intro h
      rw[←List.take_append_drop (br (at_ l 0)) l,List.mem_append]at h;rcases h with h|h
      ·obtain⟨i,hi,he⟩:=List.mem_iff_getElem.1 h
       rw[List.length_take]at hi;rw[List.getElem_take]at he;have G:at_ l i=0:=by unfold at_;rw[List.getD,List.getElem?_eq_getElem (by omega),he];rfl
       by_cases E:i=0
       ·subst E;exact absurd G B
       ·have:=A.2.2.1 i (by omega) (by omega)
        unfold ch at this;omega
      ·exact h
    ·rw[if_neg A,if_pos (H A)]
     simp
theorem uy (l:List UInt8):aQ l=(validD l&&!(l.contains 0)):=yN _ l (Nat.le_refl _)
theorem fH (x z:List UInt8) (k:Nat) (h:k<x.length):at_ (x++z) k=at_ x k:=by
 unfold at_;simp[List.getD,List.getElem?_append_left h]
theorem zQ (x z:List UInt8) (hx:x≠[]):b7 x→b7 (x++z):=by
 have hl:0<x.length:=List.length_pos_iff.2 hx;rintro⟨h1,h2,h3,h4⟩;have A:=fH x z 0 hl;refine⟨by rw[A];exact h1,by rw[A,List.length_append];omega,fun k hk B=>?_,?_⟩
 ·rw[A]at hk
  rw[fH x z k (by omega)];exact h3 k hk B
 ·rw[A]
  by_cases hw:1<x.length
  ·rwa [fH x z 1 hw]
  ·unfold dw
   omega
theorem KG (x y:List UInt8) (hx:x≠[]):b7 (x++47::y)→b7 x:=by
 have hl:0<x.length:=List.length_pos_iff.2 hx;rintro⟨h1,h2,h3,h4⟩;have A:=fH x (47::y) 0 hl;rw[A]at h1 h2 h3 h4
 have hs:at_ (x++47::y) x.length=47:=by
  unfold at_;simp[List.getD]
 have hw:br (at_ x 0)≤x.length:=by
  rcases Nat.lt_or_ge x.length (br (at_ x 0))with h|h
  ·have:=h3 x.length h hl
   rw[hs]at this;unfold ch at this;omega
  ·exact h
 refine⟨h1,hw,fun k hk B=>?_,?_⟩
 ·have:=h3 k hk B
  rwa [fH x _ k (by omega)]at this
 ·by_cases hw:1<x.length
  ·rwa [fH x _ 1 hw]at h4
  ·unfold dw
   omega
theorem CL (y:List UInt8):b7 (47::y)∧br (at_ (47::y) 0)=1:=by
 have e:at_ (47::y) 0=47:=rfl;have hw:br 47=1:=by decide
 refine⟨⟨by rw[e,hw];omega,by rw[e,hw];simp,fun k hk A=>?_,?_⟩,by rw[e,hw]⟩
 ·rw[e,hw]at hk;omega
 ·rw[e,hw];unfold dw;omega
theorem D7 (n:Nat):∀x y:List UInt8,x.length≤n→aQ (x++47::y)=(aQ x&&aQ y):=by
 induction n with
 |zero=>
  intro x y h;have:x=[]:=List.length_eq_zero_iff.1 (by omega);subst this;obtain⟨h1,D⟩:=CL y;rw[List.nil_append,dY _ (by simp),if_pos h1,D];rfl
 |succ n ih=>
  intro x y h
  by_cases B:x=[]
  ·subst B
   exact ih [] y (by simp)
  ·have hl:0<x.length:=List.length_pos_iff.2 B
   rw[dY (x++47::y) (by simp),dY x B]
   by_cases A:b7 x
   ·rw[if_pos A,if_pos (zQ x _ B A),fH x _ 0 hl,List.drop_append_of_le_length A.2.1]
    have:0<br (at_ x 0):=Nat.pos_of_ne_zero A.1;exact ih _ y (by rw[List.length_drop];omega)
   ·rw[if_neg A,if_neg (fun h=>A (KG x y B h))]
    rfl
theorem xm (x y:List UInt8):aQ (x++47::y)=(aQ x&&aQ y):=D7 _ x y (Nat.le_refl _)
def aC:List UInt8→List (List UInt8)
 |[]=>[[]]
 |b::l=>if b=47 then[]::aC l else(b::(aC l).headD [])::(aC l).tail
theorem tM (l:List UInt8):aC l≠[]:=by
 cases l with
 |nil=>simp[aC]
 |cons b l=>unfold aC;split<;>simp
theorem jM (x:List UInt8) (h:(47:UInt8)∉x):aC x=[x]:=by
 induction x with
 |nil=>rfl
 |cons b x ih=>
  have B:b≠47:=fun e=>h (by simp[e])
  rw[aC,if_neg B,ih (fun A=>h (List.mem_cons_of_mem _ A))];rfl
theorem wO (x y:List UInt8):aC (x++47::y)=aC x++aC y:=by
 induction x with
 |nil=>simp[aC]
 |cons b x ih=>
  by_cases A:b=47
  ·subst A
   simp[aC,ih]
  ·rw[List.cons_append,aC,if_neg A,aC,if_neg A,ih]
   cases B:aC x with
   |nil=>exact absurd B (tM x)
   |cons p ps=>simp
theorem ve (l:List UInt8):∀p∈aC l,(47:UInt8)∉p:=by
 induction l with
 |nil=>simp[aC]
 |cons b l ih=>
  unfold aC
  by_cases A:b=47
  ·rw[if_pos A]
   intro p hp;rcases List.mem_cons.1 hp with rfl|hp
   ·simp
   ·exact ih p hp
  ·rw[if_neg A]
   cases B:aC l with
   |nil=>exact absurd B (tM l)
   |cons q qs=>
    rw[B]at ih;intro p hp;rcases List.mem_cons.1 hp with rfl|hp
    ·simp only[List.headD_cons]
     intro h;rcases List.mem_cons.1 h with h|h
     ·exact A h.symm
     ·exact ih q (by simp) h
    ·exact ih p (List.mem_cons_of_mem _ hp)
theorem wP (l:List UInt8):(0≤indexByte l 47→aC l=l.take (indexByte l 47).toNat::aC (l.drop ((indexByte l 47).toNat+1)))∧(¬0≤indexByte l 47→aC l=[l]):=by
 induction l with
 |nil=>exact⟨fun h=>by simp[indexByte]at h,fun _=>rfl⟩
 |cons b l ih=>
  have E:=indexByte_ge l 47
  by_cases A:b=47
  ·subst A
   have e:indexByte ((47:UInt8)::l) 47=0:=by simp[indexByte]
   rw[e];exact⟨fun _=>by simp[aC],fun h=>absurd (by omega) h⟩
  ·have B:(b==47)=false:=by simpa using A
   by_cases hi:indexByte l 47=-1
   ·have e:indexByte (b::l) 47=-1:=by simp[indexByte,B,hi]
    rw[e];refine⟨fun h=>absurd h (by omega),fun _=>?_⟩;rw[aC,if_neg A,ih.2 (by omega)];rfl
   ·have D:(indexByte l 47==-1)=false:=by simpa using hi
    have e:indexByte (b::l) 47=indexByte l 47+1:=by simp[indexByte,B,D]
    rw[e,show(indexByte l 47+1).toNat=(indexByte l 47).toNat+1 by omega];refine⟨fun _=>?_,fun h=>absurd (by omega) h⟩;rw[aC,if_neg A,ih.1 (by omega)];rfl
theorem DD (n:Nat):∀l:List UInt8,l.length≤n→aQ l=true→∀p∈aC l,aQ p=true:=by
 induction n with
 |zero=>
  intro l h _ p hp;have:l=[]:=List.length_eq_zero_iff.1 (by omega);subst this;simp[aC]at hp;subst hp;rfl
 |succ n ih=>
  intro l h A p hp;obtain⟨h1,D⟩:=wP l
  by_cases hi:0≤indexByte l 47
  ·rw[h1 hi]at hp
   obtain⟨k,hk⟩:∃k:Nat,indexByte l 47=k:=⟨(indexByte l 47).toNat,by omega⟩
   obtain⟨E,B⟩:=List.getElem?_eq_some_iff.1 (indexByte_some hk).1;rw[hk]at hp
   have hs:l=l.take k++47::l.drop (k+1):=by
    rw[←B,List.getElem_cons_drop,List.take_append_drop]
   rw[hs,xm,Bool.and_eq_true]at A;rcases List.mem_cons.1 hp with rfl|hp
   ·exact A.1
   ·exact ih _ (by rw[List.length_drop];omega) A.2 p hp
  ·rw[D hi]at hp
   rcases List.mem_cons.1 hp with rfl|hp
   ·exact A
   ·cases hp
def bH (c p:List UInt8):List UInt8:=if p=[]∨p=[46]then c else if c=[]then p else c++47::p
def xP:List UInt8→List (List UInt8)→Option (List UInt8)
 |c,[]=>some c
 |c,p::ps=>if p=[46,46]then none else xP (bH c p) ps
def rN:List UInt8→List (List UInt8)→Option (List UInt8)
 |c,[]=>some c
 |c,p::ps=>if p=[46,46]∨200<(bH c p).length then none else rN (bH c p) ps
theorem K5 (c p:List UInt8):c.length≤(bH c p).length:=by
 unfold bH;split
 ·exact Nat.le_refl _
 ·split
  ·next h=>simp[h]
  ·simp
theorem QF (ps:List (List UInt8)):∀c a,xP c ps=some a→c.length≤a.length:=by
 induction ps with
 |nil=>intro c a h;cases h;exact Nat.le_refl _
 |cons p ps ih=>
  intro c a h;unfold xP at h;split at h
  ·cases h
  ·exact Nat.le_trans (K5 c p) (ih _ _ h)
theorem QG (ps:List (List UInt8)):∀c,c.length≤200→rN c ps=(xP c ps).bind fun a=>if a.length≤200 then some a else none:=by
 induction ps with
 |nil=>intro c h;simp[rN,xP,h]
 |cons p ps ih=>
  intro c h;unfold rN xP
  by_cases h1:p=[46,46]
  ·rw[if_pos (.inl h1),if_pos h1];rfl
  ·by_cases A:200<(bH c p).length
   ·rw[if_pos (.inr A),if_neg h1]
    cases B:xP (bH c p) ps with
    |none=>rfl
    |some a=>
     have:=QF ps _ _ B;rw[Option.bind_some,if_neg (by omega)]
   ·rw[if_neg (fun h=>h.elim h1 A),if_neg h1]
    exact ih _ (by omega)
def bz (T P:Int) (l:List UInt8):List UInt8 × Int:=
 if aQ l=false then([],T)else if l.headD 47=47 then([],P)else
  match xP [] (aC l)with
  |none=>([],P)
  |some a=>if a=[]∨200<a.length then([],P)else(a,0)
def ee (ps:List (List UInt8)):List (List UInt8):=ps.filter fun p=>!(p==[]||p==[46])
def aW:List (List UInt8)→List UInt8
 |[]=>[]
 |[p]=>p
 |p::q::ps=>p++47::aW (q::ps)
theorem DX (qs:List (List UInt8)) (p:List UInt8):qs≠[]→aW (qs++[p])=aW qs++47::p:=by
 induction qs with
 |nil=>intro h;exact absurd rfl h
 |cons q qs ih=>
  intro _
  cases qs with
  |nil=>rfl
  |cons r qs=>
   have:=ih (by simp);simp only[List.cons_append]at this⊢;rw[aW,this,aW];simp
theorem qb (qs:List (List UInt8)) (h:∀q∈qs,q≠[]):aW qs=[]↔qs=[]:=by
 constructor
 ·intro e
  cases qs with
  |nil=>rfl
  |cons q qs=>
   cases qs with
   |nil=>exact absurd e (h q (by simp))
   |cons r qs=>simp[aW]at e
 ·rintro rfl;rfl
theorem Fb (ps:List (List UInt8)):∀q∈ee ps,q≠[]∧q≠[46]∧q∈ps:=by
 intro q B;obtain⟨h1,A⟩:=List.mem_filter.1 B;simp at A;exact⟨A.1,A.2,h1⟩
theorem QE (ps:List (List UInt8)):∀qs:List (List UInt8),(∀q∈qs,q≠[])→
 xP (aW qs) ps=if[46,46]∈ps then none else some (aW (qs++ee ps)):=by
 induction ps with
 |nil=>intro qs _;simp[xP,ee]
 |cons p ps ih=>
  intro qs D;unfold xP
  by_cases h1:p=[46,46]
  ·rw[if_pos h1,if_pos (by simp[h1])]
  ·rw[if_neg h1]
   have hm:([46,46]∈p::ps)↔[46,46]∈ps:=by
    rw[List.mem_cons];exact⟨fun h=>h.elim (fun e=>absurd e.symm h1) id,.inr⟩
   by_cases A:p=[]∨p=[46]
   ·have e:bH (aW qs) p=aW qs:=by unfold bH;rw[if_pos A]
    have k:ee (p::ps)=ee ps:=by
     unfold ee;rw[List.filter_cons,if_neg (by simpa using fun h=>A.resolve_left h)]
    rw[e,ih qs D,k];simp only[hm]
   ·have k:ee (p::ps)=p::ee ps:=by
     unfold ee;rw[List.filter_cons,if_pos (by simpa using A)]
    have e:bH (aW qs) p=aW (qs++[p]):=by
     unfold bH;rw[if_neg A]
     by_cases B:qs=[]
     ·subst B;rfl
     ·rw[if_neg (fun h=>B ((qb qs D).1 h)),DX qs p B]
    rw[e,ih (qs++[p]) (by
     intro q B;rcases List.mem_append.1 B with h|h
     ·exact D q h
     ·simp at h;subst h;exact fun e=>A (.inl e)),k]
    simp only[hm,List.append_assoc,List.singleton_append]
theorem GY (l:List UInt8):xP [] (aC l)=if[46,46]∈aC l then none else some (aW (ee (aC l))):=by
 have:=QE (aC l) [] (by simp)
 rwa [List.nil_append]at this
theorem ox (T P:Int) (hT:T≠0) (hP:P≠0) (l a:List UInt8):bz T P l=(a,0)↔
 (aQ l=true∧l.headD 47≠47∧[46,46]∉aC l∧a=aW (ee (aC l))∧ee (aC l)≠[]∧a.length≤200):=by
 unfold bz;rw[GY];have hk:∀q∈ee (aC l),q≠[]:=fun q G=>(Fb _ q G).1
 cases H:aQ l with
 |false=>simp[hT]
 |true=>
  rw[if_neg (by simp)]
  by_cases A:l.headD 47=47
  ·rw[if_pos A]
   exact⟨fun h=>absurd (Prod.mk.injEq .. ▸h).2 hP,fun h=>absurd A h.2.1⟩
  ·rw[if_neg A]
   by_cases hm:[46,46]∈aC l
   ·rw[if_pos hm]
    simp[hP,hm]
   ·rw[if_neg hm]
    simp only
    by_cases B:ee (aC l)=[]
    ·rw[if_pos (.inl (by rw[B];rfl))]
     simp[hP,B]
    ·have E:aW (ee (aC l))≠[]:=fun e=>B ((qb _ hk).1 e)
     by_cases D:200<(aW (ee (aC l))).length
     ·rw[if_pos (.inr D)]
      constructor
      ·intro h;simp[hP]at h
      ·rintro⟨_,_,_,rfl,_,h⟩;omega
     ·rw[if_neg (fun h=>h.elim E D)]
      constructor
      ·intro h
       obtain⟨rfl,_⟩:=Prod.mk.injEq .. ▸h;exact⟨trivial,A,hm,rfl,B,by omega⟩
      ·rintro⟨_,_,_,rfl,_,_⟩;rfl
theorem DE (qs:List (List UInt8)) (hq:qs≠[]) (h:∀q∈qs,(47:UInt8)∉q):aC (aW qs)=qs:=by
 induction qs with
 |nil=>exact absurd rfl hq
 |cons q qs ih=>
  cases qs with
  |nil=>exact jM q (h q (by simp))
  |cons r qs=>
   rw[aW,wO,jM q (h q (by simp)),ih (by simp) (fun p A=>h p (List.mem_cons_of_mem _ A))];rfl
theorem I1 (qs:List (List UInt8)) (h:∀q∈qs,aQ q=true):aQ (aW qs)=true:=by
 induction qs with
 |nil=>rfl
 |cons q qs ih=>
  cases qs with
  |nil=>exact h q (by simp)
  |cons r qs=>
   rw[aW,xm,h q (by simp),ih (fun p A=>h p (List.mem_cons_of_mem _ A))];rfl
theorem G7 (qs:List (List UInt8)) (hq:qs≠[]) (h:∀q∈qs,q≠[]∧(47:UInt8)∉q):(aW qs).headD 47≠47:=by
 have first:∀q:List UInt8,q≠[]→(47:UInt8)∉q→∀z:List UInt8,(q++z).headD 47≠47:=by
  intro q hq B z
  cases q with
  |nil=>exact absurd rfl hq
  |cons b q=>exact fun e=>B (by simp at e;simp[e])
 cases qs with
 |nil=>exact absurd rfl hq
 |cons q qs=>
  obtain⟨h1,A⟩:=h q (by simp)
  cases qs with
  |nil=>
   have:=first q h1 A []
   rwa [List.append_nil]at this
  |cons r qs=>exact first q h1 A _
theorem zx (T P:Int) (hT:T≠0) (hP:P≠0) (l a:List UInt8) (h:bz T P l=(a,0)):
 ∃qs:List (List UInt8),qs≠[]∧(∀q∈qs,q≠[]∧q≠[46]∧q≠[46,46]∧(47:UInt8)∉q∧aQ q=true)∧a=aW qs∧ee (aC l)=qs∧a.length≤200∧aQ l=true∧l.headD 47≠47∧[46,46]∉aC l:=by
 obtain⟨h1,D,B,E,G,H⟩:=(ox T P hT hP l a).1 h;refine⟨_,G,fun q I=>?_,E,rfl,H,h1,D,B⟩;obtain⟨J,L,A⟩:=Fb _ q I;exact⟨J,L,fun e=>B (e▸A),ve l q A,DD _ l (Nat.le_refl _) h1 q A⟩
theorem Ob (qs:List (List UInt8)) (h:∀q∈qs,q≠[]∧q≠[46]):ee qs=qs:=
 List.filter_eq_self.2 fun q A=>by simpa using h q A
theorem Cl (T P:Int) (hT:T≠0) (hP:P≠0) (qs:List (List UInt8)) (x:List UInt8) (hq:qs≠[]) (h:∀q∈qs,q≠[]∧q≠[46]∧q≠[46,46]∧(47:UInt8)∉q∧aQ q=true)
 (hl:(aW qs).length≤200) (ht:aQ x=true) (h0:x.headD 47≠47) (hp:∃A B,aC x=A++qs++B∧(∀p∈A,p=[]∨p=[46])∧(∀p∈B,p=[]∨p=[46])):bz T P x=(aW qs,0):=by
 obtain⟨A,B,hp,hA,D⟩:=hp;have none_:∀C:List (List UInt8),(∀p∈C,p=[]∨p=[46])→ee C=[]:=fun C E=>List.filter_eq_nil_iff.2 fun p hp=>by simpa using fun e=>(E p hp).resolve_left e
 have hk:ee (aC x)=qs:=by
  have e:ee (aC x)=ee A++ee qs++ee B:=by rw[hp];unfold ee;rw[List.filter_append,List.filter_append]
  rw[e,none_ A hA,none_ B D,Ob qs fun q hq=>⟨(h q hq).1,(h q hq).2.1⟩];simp
 refine(ox T P hT hP x _).2 ⟨ht,h0,?_,by rw[hk],by rw[hk];exact hq,hl⟩;rw[hp];intro hm;rcases List.mem_append.1 hm with hm|hm
 ·rcases List.mem_append.1 hm with hm|hm
  ·rcases hA _ hm with e|e<;>cases e
  ·exact(h _ hm).2.2.1 rfl
 ·rcases D _ hm with e|e<;>cases e
theorem nK (T P:Int) (hT:T≠0) (hP:P≠0) (l a:List UInt8) (h:bz T P l=(a,0)):bz T P a=(a,0)∧a≠[]∧a.headD 47≠47∧a.length≤200:=by
 obtain⟨B,D,A,rfl,_,hl,_⟩:=zx T P hT hP l a h;have E:=G7 B D fun q h=>⟨(A q h).1,(A q h).2.2.2.1⟩
 refine⟨Cl T P hT hP B _ D A hl (I1 B fun q h=>(A q h).2.2.2.2) E ⟨[],[],by rw[DE B D fun q h=>(A q h).2.2.2.1];simp,by simp,by simp⟩,fun e=>D ((qb B fun q h=>(A q h).1).1 e),E,hl⟩
theorem Gu (T P:Int) (l:List UInt8):bz T P l=if aQ l=false then([],T)else if l.head? =some 47 then([],P)else
 match rN [] (aC l)with
 |none=>([],P)
 |some a=>if a=[]then([],P)else(a,0):=by
 unfold bz;split
 ·rfl
 ·by_cases hl:l=[]
  ·subst hl
   simp[aC,rN,bH]
  ·have D:l.headD 47=47↔l.head? =some 47:=by
    cases l with
    |nil=>exact absurd rfl hl
    |cons b t=>simp
   simp only[D];split
   ·rfl
   ·rw[QG _ [] (by simp)]
    cases E:xP [] (aC l)with
    |none=>rfl
    |some a=>
     rw[Option.bind_some]
     by_cases A:a.length≤200
     ·rw[if_pos A]
      by_cases B:a=[]
      ·simp[B]
      ·simp[B];omega
     ·rw[if_neg A]
      show(if a=[]∨200<a.length then _ else _)=_;rw[if_pos (.inr (by omega))]
def dc (T P:Int) (l:List UInt8):Int:=if aQ l=false then T else if l=[]∨200<l.length then P else 0
end Path
namespace Rec
open Path
variable {k v:List UInt8} {n:Nat}
def xK (n:Nat):UInt8:=UInt8.ofNat (48+n % 10)
theorem oB (n:Nat):(xK n).toNat=48+n % 10:=by
 unfold xK;rw[UInt8.toNat_ofNat'];omega
def aJ (n:Nat):List UInt8:=if n<10 then[xK n]else aJ (n / 10)++[xK n]
termination_by n
decreasing_by omega
theorem eE (h:n<10):aJ n=[xK n]:=by rw[aJ,if_pos h]
theorem gr (h:¬n<10):aJ n=aJ (n / 10)++[xK n]:=by rw[aJ,if_neg h]
theorem fI (n:Nat):0<(aJ n).length:=by
 by_cases h:n<10
 ·rw[eE h];simp
 ·rw[gr h];simp
theorem kJ (n:Nat):0<n→10 ^ ((aJ n).length - 1)≤n∧n<10 ^ (aJ n).length:=by
 induction n using Nat.strongRecOn with
 |ind n ih=>
  intro D
  by_cases h:n<10
  ·rw[eE h]
   simp;omega
  ·rw[gr h,List.length_append,List.length_singleton,Nat.add_sub_cancel]
   obtain⟨h1,B⟩:=ih (n / 10) (by omega) (by omega);have A:=fI (n / 10)
   have e:10 ^ (aJ (n / 10)).length=10*10 ^ ((aJ (n / 10)).length - 1):=by
    rw[←Nat.pow_succ',Nat.succ_eq_add_one,Nat.sub_add_cancel A]
   refine⟨by rw[e];omega,?_⟩;rw[Nat.pow_succ];omega
theorem lL {a b:Nat} (h:a≤b):(aJ a).length≤(aJ b).length:=by
 by_cases A:a=0
 ·subst A
  rw[eE (by omega)];exact fI b
 ·obtain⟨h1,_⟩:=kJ a (by omega)
  obtain⟨_,D⟩:=kJ b (by omega);have B:10 ^ ((aJ a).length - 1)<10 ^ (aJ b).length:=by omega
  have:=(Nat.pow_lt_pow_iff_right (by omega:1<10)).1 B;have:=fI a;omega
def gU (m:Nat):Nat:=if(aJ (m+(aJ m).length)).length=(aJ m).length then m+(aJ m).length else m+(aJ m).length+1
theorem oR (m:Nat):m≤gU m∧gU m≤m+(aJ m).length+1:=by
 unfold gU;split<;>omega
theorem lK (n k:Nat) (hk:0<k) (h:n<10 ^ k):(aJ n).length≤k:=by
 by_cases A:n=0
 ·subst A
  rw[eE (by omega)];exact hk
 ·obtain⟨h1,_⟩:=kJ n (by omega)
  have:=(Nat.pow_lt_pow_iff_right (by omega:1<10)).1 (Nat.lt_of_le_of_lt h1 h);omega
theorem Og (d:Nat):d+1<10 ^ (d+1) - 10 ^ d:=by
 induction d with
 |zero=>decide
 |succ d ih=>
  have A:10 ^ (d+1+1)=10*10 ^ (d+1):=Nat.pow_succ';have B:10 ^ (d+1)=10*10 ^ d:=Nat.pow_succ';omega
theorem tu (m:Nat) (hm:0<m):(aJ (gU m)).length+m=gU m:=by
 unfold gU
 by_cases h:(aJ (m+(aJ m).length)).length=(aJ m).length
 ·rw[if_pos h,h];omega
 ·rw[if_neg h]
  obtain⟨d,hd⟩:∃d,(aJ m).length=d+1:=⟨(aJ m).length - 1,by have:=fI m;omega⟩
  obtain⟨h1,A⟩:=kJ m hm;rw[hd]at h h1 A⊢
  have B:(aJ (m+(d+1))).length≥d+1:=by
   have:=lL (show m≤m+(d+1) by omega);omega
  have hl:=Og (d+1);have hle:m+(d+1)+1<10 ^ (d+1+1):=by omega
  have D:=lK (m+(d+1)) (d+1+1) (by omega) (by omega);have E:=lK (m+(d+1)+1) (d+1+1) (by omega) hle;have G:=lL (show m+(d+1)≤m+(d+1)+1 by omega);omega
def bj (b:UInt8):Bool:=decide (48≤b.toNat∧b.toNat≤57)
def gJ (l:List UInt8):Nat:=l.foldl (fun n b=>n*10+(b.toNat - 48)) 0
theorem I6 (l:List UInt8) (b:UInt8):gJ (l++[b])=gJ l*10+(b.toNat - 48):=by simp[gJ]
theorem FF (l:List UInt8) (h:∀b∈l,bj b=true):gJ l<10 ^ l.length:=by
 suffices H:∀(l:List UInt8) (n k:Nat),(∀b∈l,bj b=true)→n<10 ^ k→l.foldl (fun n b=>n*10+(b.toNat - 48)) n<10 ^ (k+l.length) by
  have:=H l 0 0 h (by decide)
  rwa [Nat.zero_add]at this
 intro l
 induction l with
 |nil=>intro n k _ A;exact A
 |cons b l ih=>
  intro n k hl A;have B:=hl b (by simp);simp only[bj,decide_eq_true_eq]at B;have:=ih (n*10+(b.toNat - 48)) (k+1) (fun c hc=>hl c (List.mem_cons_of_mem _ hc)) (by rw[Nat.pow_succ];omega)
  rwa [show k+(b::l).length=k+1+l.length by rw[List.length_cons];omega]
def dj (l:List UInt8):Option Nat:=if l.length<1∨18<l.length then none else if l.all bj then some (gJ l)else none
def gz (k v:List UInt8):Bool:=!k.contains 61&&!k.isEmpty&&aQ k&&aQ v&&decide (k.length+v.length≤100000)
def gO (k v:List UInt8):List UInt8:=32::k++61::v++[10]
theorem iB (k v:List UInt8):(gO k v).length=k.length+v.length+3:=by
 simp only[gO,List.length_append,List.length_cons,List.length_nil];omega
def cQ (k v:List UInt8):List UInt8:=aJ (gU (gO k v).length)++gO k v
theorem oQ (k v:List UInt8):(cQ k v).length=gU (gO k v).length:=by
 rw[cQ,List.length_append];exact tu _ (by rw[iB];omega)
def gu (l:List UInt8):Nat:=(l.takeWhile bj).length
def dA (R T:Int) (l:List UInt8):Except Int (List UInt8 × List UInt8 × Nat):=
 if gu l<1∨7<gu l∨l.getD 0 0=48∨gu l=l.length∨l.getD (gu l) 0≠32 then .error R
 else if l.length<gJ (l.take (gu l))∨gJ (l.take (gu l))<gu l+4∨l.getD (gJ (l.take (gu l)) - 1) 0≠10 then .error R
 else
  let line:=(l.drop (gu l+1)).take (gJ (l.take (gu l)) - 1 - (gu l+1))
  if indexByte line 61<1 then .error R
  else if aQ line=false then .error T
  else .ok (line.take (indexByte line 61).toNat,line.drop ((indexByte line 61).toNat+1),gJ (l.take (gu l)))
def gE (R T:Int):Nat→List UInt8→List (List UInt8 × List UInt8)→List (List UInt8 × List UInt8) × Int
 |0,_,acc=>(acc,0)
 |n+1,l,acc=>if l=[]then(acc,0)else match dA R T l with
  |.error e=>([],e)
  |.ok (k,v,m)=>gE R T n (l.drop m) (acc++[(k,v)])
def cI (R T:Int) (l:List UInt8):List (List UInt8 × List UInt8) × Int:=gE R T l.length l []
theorem mj {R T:Int} {l:List UInt8} {m:Nat} (h:dA R T l=.ok (k,v,m)):0<m∧m≤l.length:=by
 unfold dA at h;split at h
 ·cases h
 ·split at h
  ·cases h
  ·next A=>
   dsimp only at h
   split at h
   ·cases h
   ·split at h
    ·cases h
    ·cases h
     omega
theorem AY (R T:Int) (n:Nat):∀m l acc,l.length≤n→l.length≤m→gE R T n l acc=gE R T m l acc:=by
 induction n with
 |zero=>
  intro m l acc h _;obtain rfl:l=[]:=List.length_eq_zero_iff.1 (by omega)
  cases m<;>simp[gE]
 |succ n ih=>
  intro m l acc h1 B
  cases m with
  |zero=>
   obtain rfl:l=[]:=List.length_eq_zero_iff.1 (by omega);simp[gE]
  |succ m=>
   unfold gE
   by_cases hl:l=[]
   ·rw[if_pos hl,if_pos hl]
   ·rw[if_neg hl,if_neg hl]
    cases hs:dA R T l with
    |error e=>rfl
    |ok x=>
     obtain⟨k,v,j⟩:=x;have:=mj hs;have A:0<l.length:=List.length_pos_iff.2 hl;exact ih m _ _ (by rw[List.length_drop];omega) (by rw[List.length_drop];omega)
def gX (R T:Int) (l:List UInt8) (acc:List (List UInt8 × List UInt8)):List (List UInt8 × List UInt8) × Int:=gE R T l.length l acc
theorem pf (R T:Int) (acc:List (List UInt8 × List UInt8)):gX R T [] acc=(acc,0):=rfl
theorem j3 (R T:Int) (l:List UInt8) (hl:l≠[]) (acc:List (List UInt8 × List UInt8)):gX R T l acc=match dA R T l with
 |.error e=>([],e)
 |.ok (k,v,m)=>gX R T (l.drop m) (acc++[(k,v)]):=by
 have B:0<l.length:=List.length_pos_iff.2 hl;unfold gX;obtain⟨n,A⟩:∃n,l.length=n+1:=⟨l.length - 1,by omega⟩
 rw[A,gE,if_neg hl]
 cases hs:dA R T l with
 |error e=>rfl
 |ok x=>
  obtain⟨k,v,j⟩:=x;have:=mj hs;exact AY R T _ _ _ _ (by rw[List.length_drop];omega) (Nat.le_refl _)
theorem G6 (c:UInt8) (hc:0<c.toNat∧c.toNat<128) (x y:List UInt8) (hx:x≠[]):b7 (x++c::y)→b7 x:=by
 have hl:0<x.length:=List.length_pos_iff.2 hx;rintro⟨h1,h2,h3,h4⟩;have A:=fH x (c::y) 0 hl;rw[A]at h1 h2 h3 h4
 have hs:at_ (x++c::y) x.length=c.toNat:=by
  unfold at_;simp[List.getD]
 have hw:br (at_ x 0)≤x.length:=by
  rcases Nat.lt_or_ge x.length (br (at_ x 0))with h|h
  ·have:=h3 x.length h hl
   rw[hs]at this;unfold ch at this;omega
  ·exact h
 refine⟨h1,hw,fun k hk B=>?_,?_⟩
 ·have:=h3 k hk B
  rwa [fH x _ k (by omega)]at this
 ·by_cases hw:1<x.length
  ·rwa [fH x _ 1 hw]at h4
  ·unfold dw
   omega
theorem zS (c:UInt8) (hc:0<c.toNat∧c.toNat<128) (y:List UInt8):b7 (c::y)∧br (at_ (c::y) 0)=1:=by
 have e:at_ (c::y) 0=c.toNat:=rfl;have hw:br c.toNat=1:=by unfold br;rw[if_neg (by omega),if_pos (by omega)]
 refine⟨⟨by rw[e,hw];omega,by rw[e,hw];simp,fun k hk A=>?_,?_⟩,by rw[e,hw]⟩
 ·rw[e,hw]at hk;omega
 ·rw[e,hw];unfold dw;omega
theorem D6 (c:UInt8) (hc:0<c.toNat∧c.toNat<128) (n:Nat):∀x y:List UInt8,x.length≤n→aQ (x++c::y)=(aQ x&&aQ y):=by
 induction n with
 |zero=>
  intro x y h;obtain rfl:x=[]:=List.length_eq_zero_iff.1 (by omega);obtain⟨h1,D⟩:=zS c hc y;rw[List.nil_append,dY _ (by simp),if_pos h1,D];rfl
 |succ n ih=>
  intro x y h
  by_cases B:x=[]
  ·subst B
   exact ih [] y (by simp)
  ·have hl:0<x.length:=List.length_pos_iff.2 B
   rw[dY (x++c::y) (by simp),dY x B]
   by_cases A:b7 x
   ·rw[if_pos A,if_pos (zQ x _ B A),fH x _ 0 hl,List.drop_append_of_le_length A.2.1]
    have:0<br (at_ x 0):=Nat.pos_of_ne_zero A.1;exact ih _ y (by rw[List.length_drop];omega)
   ·rw[if_neg A,if_neg (fun h=>A (G6 c hc x y B h))]
    rfl
theorem Mj (c:UInt8) (hc:0<c.toNat∧c.toNat<128) (x y:List UInt8):aQ (x++c::y)=(aQ x&&aQ y):=D6 c hc _ x y (Nat.le_refl _)
theorem zA (n:Nat):bj (xK n)=true:=by
 unfold bj;rw[oB];simp;omega
theorem oA (n:Nat):∀b∈aJ n,bj b=true:=by
 induction n using Nat.strongRecOn with
 |ind n ih=>
  by_cases h:n<10
  ·rw[eE h]
   intro b A;rw[List.mem_singleton.1 A];exact zA n
  ·rw[gr h]
   intro b A;rcases List.mem_append.1 A with h1|h1
   ·exact ih _ (by omega) b h1
   ·rw[List.mem_singleton.1 h1]
    exact zA n
theorem Bg (n:Nat):gJ (aJ n)=n:=by
 induction n using Nat.strongRecOn with
 |ind n ih=>
  by_cases h:n<10
  ·rw[eE h]
   show 0*10+((xK n).toNat - 48)=n;rw[oB];omega
  ·rw[gr h,I6,ih _ (by omega),oB]
   omega
theorem Gz (n:Nat) (hn:0<n):(aJ n).getD 0 0≠48:=by
 induction n using Nat.strongRecOn with
 |ind n ih=>
  by_cases h:n<10
  ·rw[eE h]
   intro e;have:=congrArg UInt8.toNat e;simp only[List.getD_cons_zero,oB]at this;simp at this;omega
  ·rw[gr h]
   have:=ih (n / 10) (by omega) (by omega);have A:=fI (n / 10);rw[List.getD,List.getElem?_append_left A];exact this
theorem vq (d x:List UInt8) (hd:∀b∈d,bj b=true) (hx:∀b r,x=b::r→bj b=false):(d++x).takeWhile bj=d:=by
 induction d with
 |nil=>
  cases x with
  |nil=>rfl
  |cons b r=>rw[List.nil_append,List.takeWhile_cons,hx b r rfl];rfl
 |cons c d ih=>
  rw[List.cons_append,List.takeWhile_cons,hd c (by simp),if_pos rfl,ih fun b A=>hd b (List.mem_cons_of_mem _ A)]
theorem index_first (x y:List UInt8) (c:UInt8) (h:x.contains c=false):indexByte (x++c::y) c=x.length:=by
 induction x with
 |nil=>simp[indexByte]
 |cons b x ih=>
  rw[List.contains_cons,Bool.or_eq_false_iff]at h
  have A:(b==c)=false:=by
   have:=h.1;rw[beq_eq_false_iff_ne]at this⊢;exact fun e=>this e.symm
  have hi:=ih h.2;have B:(indexByte (x++c::y) c==-1)=false:=by rw[hi,beq_eq_false_iff_ne];omega
  have e:indexByte (b::(x++c::y)) c=indexByte (x++c::y) c+1:=by simp[indexByte,A,B]
  rw[List.cons_append,e,hi,List.length_cons];rfl
theorem ko (h:gz k v=true):k.contains 61=false∧k≠[]∧aQ k=true∧aQ v=true∧k.length+v.length≤100000:=by
 simp only[gz,Bool.and_eq_true,Bool.not_eq_true',decide_eq_true_eq,List.isEmpty_eq_false_iff]at h;exact⟨h.1.1.1.1,h.1.1.1.2,h.1.1.2,h.1.2,h.2⟩
theorem nP (h:gz k v=true):∃d,cQ k v=d++gO k v∧(∀b∈d,bj b=true)∧gJ d=(cQ k v).length∧1≤d.length∧d.length≤7∧d.getD 0 0≠48∧(cQ k v).length=d.length+k.length+v.length+3:=by
 obtain⟨_,_,_,_,hl⟩:=ko h;have B:=iB k v;have D:0<(gO k v).length:=by omega
 refine⟨aJ (gU (gO k v).length),rfl,oA _,by rw[Bg,oQ],fI _,?_,Gz _ (by have:=(oR (gO k v).length).1;omega),?_⟩
 ·refine lK _ 7 (by omega) ?_
  have h1:=(oR (gO k v).length).2;have A:=lK (gO k v).length 6 (by omega) (by omega);omega
 ·rw[cQ,List.length_append];omega
theorem yD (R T:Int) (h:gz k v=true) (rest:List UInt8):dA R T (cQ k v++rest)=.ok (k,v,(cQ k v).length):=by
 obtain⟨m1,m2,m3,m4,m5⟩:=ko h;obtain⟨d,hd,E,hval,M,L,D,hlen⟩:=nP h;have hk:0<k.length:=List.length_pos_iff.2 m2;have hl:cQ k v++rest=d++(32::(k++61::v++10::rest)):=by rw[hd];simp[gO]
 have I:gu (cQ k v++rest)=d.length:=by
  unfold gu;rw[hl,vq d _ E fun b r e=>by cases e;decide]
 have B:(cQ k v++rest).length=d.length+(k.length+v.length+3)+rest.length:=by rw[List.length_append,hlen];omega
 have J:(cQ k v++rest).take d.length=d:=by rw[hl];exact List.take_left
 have H:(cQ k v++rest).drop (d.length+1)=k++61::v++10::rest:=by
  rw[hl,←List.drop_drop,List.drop_left];rfl
 have g0:(cQ k v++rest).getD 0 0=d.getD 0 0:=by
  rw[hl,List.getD,List.getElem?_append_left (by omega)];rfl
 have g1:(cQ k v++rest).getD d.length 0=32:=by
  rw[hl,List.getD,List.getElem?_append_right (Nat.le_refl _),Nat.sub_self];rfl
 have A:(k++61::v).length=k.length+v.length+1:=by rw[List.length_append,List.length_cons];omega
 have g2:(cQ k v++rest).getD ((cQ k v).length - 1) 0=10:=by
  rw[hl,List.getD,hlen,List.getElem?_append_right (by omega),show d.length+k.length+v.length+3 - 1 - d.length=(k++61::v).length+1 by rw[A];omega,List.getElem?_cons_succ,List.getElem?_append_right (Nat.le_refl _),Nat.sub_self];rfl
 unfold dA;rw[I,J,hval,if_neg (by rw[B];rintro(e|e|e|e|e);omega;omega;exact D (g0▸e);omega;exact e g1),if_neg (by rw[B];rintro(e|e|e);omega;omega;exact e g2),H]
 have G:(k++61::v++10::rest).take ((cQ k v).length - 1 - (d.length+1))=k++61::v:=by
  rw[hlen,show d.length+k.length+v.length+3 - 1 - (d.length+1)=(k++61::v).length by rw[A];omega];exact List.take_left
 rw[G]
 dsimp only
 rw[index_first k v 61 m1,if_neg (by omega),Mj 61 (by decide) k v,m3,m4,if_neg (by simp),Int.toNat_natCast,List.take_left];rw[←List.drop_drop,List.drop_left];rfl
def aN (l:List (List UInt8 × List UInt8)):List UInt8:=(l.map fun r=>cQ r.1 r.2).flatten
theorem DS (R T:Int) (l:List (List UInt8 × List UInt8)):∀(rest:List UInt8) acc,(∀r∈l,gz r.1 r.2=true)→gX R T (aN l++rest) acc=gX R T rest (acc++l):=by
 induction l with
 |nil=>intro rest acc _;simp[aN]
 |cons r l ih=>
  intro rest acc h;have B:=h r (by simp);have e:aN (r::l)++rest=cQ r.1 r.2++(aN l++rest):=by simp[aN]
  have A:cQ r.1 r.2++(aN l++rest)≠[]:=by
   have E:=(oR (gO r.1 r.2).length).1;have G:=iB r.1 r.2;intro e;have:=congrArg List.length e;rw[List.length_append,oQ,List.length_nil]at this;omega
  rw[e,j3 R T _ A,yD R T B];simp only;rw[List.drop_left,ih rest _ fun x D=>h x (List.mem_cons_of_mem _ D)];simp
end Rec
end Go.Proofs.YtdhibldkldlfpaaGreatDoor
