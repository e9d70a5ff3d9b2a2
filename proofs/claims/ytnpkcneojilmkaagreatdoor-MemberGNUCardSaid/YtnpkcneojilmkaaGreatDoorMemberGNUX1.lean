/- Texts of this seat, merged: what the proof reaches. -/
import Derived.Lib.ValidU
import Derived.Lib.IndexLaws
section
namespace Go.Proofs.YtnpkcneojilmkaaGreatDoor.Path
open Go.Lib
set_option linter.unusedVariables false
def wideC (c:Nat):Nat:=if c=0 then 0 else if c < 128 then 1 else if 194≤c∧c < 224 then 2 else if 224≤c∧c < 240 then 3 else if 240≤c∧c < 245 then 4 else 0
def at_ (l:List UInt8) (k:Nat):Nat:=(l.getD k 0).toNat
def isCont (c:Nat):Prop:=128≤c∧c≤191
instance (c:Nat):Decidable (isCont c):=inferInstanceAs (Decidable (_∧_))
def isBad (n c b:Nat):Prop:=(n=3∧(c=224∧b < 160 ∨ c=237∧159 < b)) ∨ (n=4∧(c=240∧b < 144 ∨ c=244∧143 < b))
instance (n c b:Nat):Decidable (isBad n c b):=inferInstanceAs (Decidable (_ ∨ _))
def headOk (l:List UInt8):Prop:=
 wideC (at_ l 0)≠0∧wideC (at_ l 0)≤l.length∧(∀ k,k < wideC (at_ l 0) → 0 < k → isCont (at_ l k))∧¬ isBad (wideC (at_ l 0)) (at_ l 0) (at_ l 1)
instance (l:List UInt8):Decidable (headOk l):=inferInstanceAs (Decidable (_∧_∧_∧_))
def textGo:Nat → List UInt8 → Bool
 | 0,_ => true
 | n+1,l => if l=[] then true else if headOk l then textGo n (l.drop (wideC (at_ l 0))) else false
def textD (l:List UInt8):Bool:=textGo l.length l
theorem wide_le (c:Nat):wideC c≤4:=by unfold wideC;repeat' split
                                      all_goals omega
theorem textGo_fuel (n:Nat):∀ m l,l.length≤n → l.length≤m → textGo n l=textGo m l:=by
 induction n with
 | zero =>
   intro m l h _;have:l=[]:=List.length_eq_zero_iff.1 (by omega)
   subst this
   cases m<;>simp [textGo]
 | succ n ih =>
   intro m l h1 h2
   cases m with
   | zero =>
     have:l=[]:=List.length_eq_zero_iff.1 (by omega)
     subst this;simp [textGo]
   | succ m =>
     unfold textGo
     by_cases hl:l=[]
     ·rw [if_pos hl,if_pos hl]
     ·rw [if_neg hl,if_neg hl]
      by_cases hh:headOk l
      ·rw [if_pos hh,if_pos hh]
       have:0 < wideC (at_ l 0):=Nat.pos_of_ne_zero hh.1;have hl':0 < l.length:=List.length_pos_iff.2 hl;exact ih m _ (by rw [List.length_drop];omega) (by rw [List.length_drop];omega)
      ·rw [if_neg hh,if_neg hh]
theorem textD_nil:textD []=true:=rfl
theorem textD_step (l:List UInt8) (hl:l≠[]):textD l=if headOk l then textD (l.drop (wideC (at_ l 0))) else false:=by
 have hl':0 < l.length:=List.length_pos_iff.2 hl;unfold textD;obtain ⟨n,hn⟩:∃ n,l.length=n+1:=⟨l.length - 1,by omega⟩
 rw [hn,textGo,if_neg hl]
 by_cases hh:headOk l
 ·rw [if_pos hh,if_pos hh]
  have:0 < wideC (at_ l 0):=Nat.pos_of_ne_zero hh.1;exact textGo_fuel _ _ _ (by rw [List.length_drop];omega) (Nat.le_refl _)
 ·rw [if_neg hh,if_neg hh]
theorem get_at (l:List UInt8) (k:Nat):((⟨l.toArray⟩:ByteArray).get! k).toNat=at_ l k:=by
 unfold at_ ByteArray.get!;simp only [Array.getElem!_eq_getD]
 by_cases h:k < l.length
 ·simp [Array.getD,List.getD,h]
 ·simp [Array.getD,List.getD,h]
  rfl
theorem decode_eq (l:List UInt8):decodeL l =
 (if at_ l 0 < 128 then (at_ l 0,1)
  else if at_ l 0 / 32=6∧(1 < l.length∧at_ l 1 / 64=2) then
   (if 128≤at_ l 0 % 32 * 64+at_ l 1 % 64 then (at_ l 0 % 32 * 64+at_ l 1 % 64,2) else (65533,1))
  else if at_ l 0 / 16=14∧(1 < l.length∧at_ l 1 / 64=2)∧(2 < l.length∧at_ l 2 / 64=2) then
   (if 2048≤at_ l 0 % 16 * 4096+at_ l 1 % 64 * 64+at_ l 2 % 64∧Utf8.valid (at_ l 0 % 16 * 4096+at_ l 1 % 64 * 64+at_ l 2 % 64:Nat)=true then (at_ l 0 % 16 * 4096+at_ l 1 % 64 * 64+at_ l 2 % 64,3) else (65533,1))
  else if at_ l 0 / 8=30∧(1 < l.length∧at_ l 1 / 64=2)∧(2 < l.length∧at_ l 2 / 64=2)∧(3 < l.length∧at_ l 3 / 64=2) then
   (if 65536≤at_ l 0 % 8 * 262144+at_ l 1 % 64 * 4096+at_ l 2 % 64 * 64+at_ l 3 % 64∧Utf8.valid (at_ l 0 % 8 * 262144+at_ l 1 % 64 * 4096+at_ l 2 % 64 * 64+at_ l 3 % 64:Nat)=true then (at_ l 0 % 8 * 262144+at_ l 1 % 64 * 4096+at_ l 2 % 64 * 64+at_ l 3 % 64,4) else (65533,1))
  else (65533,1)):=by
 unfold decodeL Utf8.decode;simp only [Nat.zero_add,get_at,show (⟨l.toArray⟩:ByteArray).size=l.length by simp [ByteArray.size],Utf8.runeError,ge_iff_le,Bool.and_eq_true,decide_eq_true_eq,beq_iff_eq,and_assoc]
theorem at_lt (l:List UInt8) (k:Nat):at_ l k < 256:=(l.getD k 0).toNat_lt
theorem valid_iff (c:Nat):Utf8.valid (c:Int)=true ↔ (c < 55296 ∨ (57344≤c∧c≤1114111)):=by
 unfold Utf8.valid;simp only [Bool.or_eq_true,Bool.and_eq_true,decide_eq_true_eq];omega
theorem head_decode (l:List UInt8) (hl:l≠[]) (h0:at_ l 0≠0) :
 (headOk l → ¬ ((decodeL l).1=65533∧(decodeL l).2=1)∧(decodeL l).2=wideC (at_ l 0))∧(¬ headOk l → (decodeL l).1=65533∧(decodeL l).2=1):=by
 have hl':0 < l.length:=List.length_pos_iff.2 hl;rw [decode_eq];simp only [valid_iff];have b0:=at_lt l 0;have b1:=at_lt l 1;have b2:=at_lt l 2;have b3:=at_lt l 3
 have key:headOk l ↔ wideC (at_ l 0)≠0∧wideC (at_ l 0)≤l.length∧(1 < wideC (at_ l 0) → isCont (at_ l 1))∧(2 < wideC (at_ l 0) → isCont (at_ l 2))∧(3 < wideC (at_ l 0) → isCont (at_ l 3))∧¬ isBad (wideC (at_ l 0)) (at_ l 0) (at_ l 1):=by
  have h4:=wide_le (at_ l 0);constructor
  ·rintro ⟨h1,h2,h3,h5⟩
   exact ⟨h1,h2,fun h => h3 1 h (by omega),fun h => h3 2 h (by omega),fun h => h3 3 h (by omega),h5⟩
  ·rintro ⟨h1,h2,h3,h5,h6,h7⟩
   refine ⟨h1,h2,fun k hk hk0 => ?_,h7⟩
   rcases (show k=1 ∨ k=2 ∨ k=3 by omega) with rfl | rfl | rfl
   ·exact h3 hk
   ·exact h5 hk
   ·exact h6 hk
 rw [key];generalize at_ l 0=c0 at *;generalize at_ l 1=c1 at *;generalize at_ l 2=c2 at *;generalize at_ l 3=c3 at *;generalize l.length=n at *;clear key hl
 by_cases h1:c0 < 128
 ·have hw:wideC c0=1:=by unfold wideC;rw [if_neg h0,if_pos h1]
  rw [hw,if_pos h1];unfold isBad;refine ⟨fun _ => ⟨by simp;omega,rfl⟩,fun h => absurd ?_ h⟩
  exact ⟨by omega,by omega,fun h => by omega,fun h => by omega,fun h => by omega,by omega⟩
 ·rw [if_neg h1]
  by_cases h2:194≤c0∧c0 < 224
  ·have hw:wideC c0=2:=by unfold wideC;rw [if_neg h0,if_neg h1,if_pos h2]
   rw [hw]
   by_cases hc:1 < n∧c1 / 64=2
   ·rw [if_pos ⟨by omega,hc⟩,if_pos (by omega)]
    unfold isCont isBad;refine ⟨fun _ => ⟨by simp,rfl⟩,fun h => absurd ?_ h⟩
    exact ⟨by omega,by omega,fun _ => by omega,fun h => by omega,fun h => by omega,by omega⟩
   ·rw [if_neg (by omega),if_neg (by omega),if_neg (by omega)]
    unfold isCont;refine ⟨fun h => absurd ?_ hc,fun _ => ⟨rfl,rfl⟩⟩
    have:=h.2.1;have:=h.2.2.1 (by omega)
    omega
  ·by_cases h3:224≤c0∧c0 < 240
   ·have hw:wideC c0=3:=by unfold wideC;rw [if_neg h0,if_neg h1,if_neg h2,if_pos h3]
    rw [hw,if_neg (by omega)]
    by_cases hc:(1 < n∧c1 / 64=2)∧(2 < n∧c2 / 64=2)
    ·rw [if_pos ⟨by omega,hc.1,hc.2⟩]
     by_cases hb:isBad 3 c0 c1
     ·rw [if_neg (by unfold isBad at hb;omega)]
      exact ⟨fun h => absurd hb h.2.2.2.2.2,fun _ => ⟨rfl,rfl⟩⟩
     ·rw [if_pos (by unfold isBad at hb;omega)]
      refine ⟨fun _ => ⟨by simp,rfl⟩,fun h => absurd ?_ h⟩
      unfold isCont;exact ⟨by omega,by omega,fun _ => by omega,fun _ => by omega,fun h => by omega,hb⟩
    ·rw [if_neg (by omega),if_neg (by omega)]
     unfold isCont;refine ⟨fun h => absurd ?_ hc,fun _ => ⟨rfl,rfl⟩⟩
     have:=h.2.1;have:=h.2.2.1 (by omega)
     have:=h.2.2.2.1 (by omega)
     omega
   ·by_cases h4:240≤c0∧c0 < 245
    ·have hw:wideC c0=4:=by unfold wideC;rw [if_neg h0,if_neg h1,if_neg h2,if_neg h3,if_pos h4]
     rw [hw,if_neg (by omega),if_neg (by omega)]
     by_cases hc:(1 < n∧c1 / 64=2)∧(2 < n∧c2 / 64=2)∧(3 < n∧c3 / 64=2)
     ·rw [if_pos ⟨by omega,hc.1,hc.2.1,hc.2.2⟩]
      by_cases hb:isBad 4 c0 c1
      ·rw [if_neg (by unfold isBad at hb;omega)]
       exact ⟨fun h => absurd hb h.2.2.2.2.2,fun _ => ⟨rfl,rfl⟩⟩
      ·rw [if_pos (by unfold isBad at hb;omega)]
       refine ⟨fun _ => ⟨by simp,rfl⟩,fun h => absurd ?_ h⟩
       unfold isCont;exact ⟨by omega,by omega,fun _ => by omega,fun _ => by omega,fun _ => by omega,hb⟩
     ·rw [if_neg (by omega)]
      unfold isCont;refine ⟨fun h => absurd ?_ hc,fun _ => ⟨rfl,rfl⟩⟩
      have:=h.2.1;have:=h.2.2.1 (by omega)
      have:=h.2.2.2.1 (by omega)
      have:=h.2.2.2.2.1 (by omega)
      omega
    ·have hw:wideC c0=0:=by unfold wideC;rw [if_neg h0,if_neg h1,if_neg h2,if_neg h3,if_neg h4]
     rw [hw];refine ⟨fun h => absurd rfl h.1,fun _ => ?_⟩
     by_cases g2:c0 / 32=6∧1 < n∧c1 / 64=2
     ·rw [if_pos g2,if_neg (by omega)]
      exact ⟨rfl,rfl⟩
     ·rw [if_neg g2,if_neg (by omega)]
      by_cases g4:c0 / 8=30∧(1 < n∧c1 / 64=2)∧(2 < n∧c2 / 64=2)∧(3 < n∧c3 / 64=2)
      ·rw [if_pos g4,if_neg (by omega)]
       exact ⟨rfl,rfl⟩
      ·rw [if_neg g4]
       exact ⟨rfl,rfl⟩
theorem textGo_valid (n:Nat):∀ l:List UInt8,l.length≤n → textGo n l=(validGoD n l && !(l.contains 0)):=by
 induction n with
 | zero =>
   intro l h;have:l=[]:=List.length_eq_zero_iff.1 (by omega)
   subst this;rfl
 | succ n ih =>
   intro l h;unfold textGo validGoD
   by_cases hl:l=[]
   ·subst hl;rfl
   ·rw [if_neg hl,if_neg hl]
    by_cases h0:at_ l 0=0
    ·have hc:l.contains 0=true:=by
      cases l with
      | nil => exact absurd rfl hl
      | cons b t =>
        have:b=0:=UInt8.toNat_inj.1 (by simpa [at_] using h0)
        subst this;simp
     rw [hc,if_neg (fun hh => hh.1 (by rw [h0];rfl))]
     simp
    ·obtain ⟨k1,k2⟩:=head_decode l hl h0
     by_cases hh:headOk l
     ·rw [if_pos hh,if_neg (k1 hh).1,(k1 hh).2]
      have hw:0 < wideC (at_ l 0):=Nat.pos_of_ne_zero hh.1;have hl':0 < l.length:=List.length_pos_iff.2 hl;rw [ih _ (by rw [List.length_drop];omega)]
      congr 2
      rw [Bool.eq_iff_iff];simp only [List.contains_iff_mem];constructor
      ·exact fun h => List.mem_of_mem_drop h
      ·intro h
       rw [← List.take_append_drop (wideC (at_ l 0)) l,List.mem_append] at h;rcases h with h | h
       ·obtain ⟨i,hi,he⟩:=List.mem_iff_getElem.1 h
        rw [List.length_take] at hi;rw [List.getElem_take] at he;have hz:at_ l i=0:=by unfold at_;rw [List.getD,List.getElem?_eq_getElem (by omega),he];rfl
        by_cases hi0:i=0
        ·subst hi0;exact absurd hz h0
        ·have:=hh.2.2.1 i (by omega) (by omega)
         unfold isCont at this;omega
       ·exact h
     ·rw [if_neg hh,if_pos (k2 hh)]
      simp
theorem text_valid (l:List UInt8):textD l=(validD l && !(l.contains 0)):=textGo_valid _ l (Nat.le_refl _)
theorem at_left (x z:List UInt8) (k:Nat) (h:k < x.length):at_ (x++z) k=at_ x k:=by
 unfold at_;simp [List.getD,List.getElem?_append_left h]
theorem head_app (x z:List UInt8) (hx:x≠[]):headOk x → headOk (x++z):=by
 have hl:0 < x.length:=List.length_pos_iff.2 hx;rintro ⟨h1,h2,h3,h4⟩;have e0:=at_left x z 0 hl;refine ⟨by rw [e0];exact h1,by rw [e0,List.length_append];omega,fun k hk hk0 => ?_,?_⟩
 ·rw [e0] at hk
  rw [at_left x z k (by omega)]
  exact h3 k hk hk0
 ·rw [e0]
  by_cases hw:1 < x.length
  ·rwa [at_left x z 1 hw]
  ·unfold isBad
   omega
theorem head_cut (x y:List UInt8) (hx:x≠[]):headOk (x++47 :: y) → headOk x:=by
 have hl:0 < x.length:=List.length_pos_iff.2 hx;rintro ⟨h1,h2,h3,h4⟩;have e0:=at_left x (47 :: y) 0 hl;rw [e0] at h1 h2 h3 h4
 have hs:at_ (x++47 :: y) x.length=47:=by
  unfold at_;simp [List.getD]
 have hw:wideC (at_ x 0)≤x.length:=by
  rcases Nat.lt_or_ge x.length (wideC (at_ x 0)) with h | h
  ·have:=h3 x.length h hl
   rw [hs] at this;unfold isCont at this;omega
  ·exact h
 refine ⟨h1,hw,fun k hk hk0 => ?_,?_⟩
 ·have:=h3 k hk hk0
  rwa [at_left x _ k (by omega)] at this
 ·by_cases hw:1 < x.length
  ·rwa [at_left x _ 1 hw] at h4
  ·unfold isBad
   omega
theorem head_slash (y:List UInt8):headOk (47 :: y)∧wideC (at_ (47 :: y) 0)=1:=by
 have e:at_ (47 :: y) 0=47:=rfl;have hw:wideC 47=1:=by decide
 refine ⟨⟨by rw [e,hw];omega,by rw [e,hw];simp,fun k hk hk0 => ?_,?_⟩,by rw [e,hw]⟩
 ·rw [e,hw] at hk;omega
 ·rw [e,hw];unfold isBad;omega
theorem text_slash (n:Nat):∀ x y:List UInt8,x.length≤n → textD (x++47 :: y)=(textD x && textD y):=by
 induction n with
 | zero =>
   intro x y h;have:x=[]:=List.length_eq_zero_iff.1 (by omega)
   subst this;obtain ⟨h1,h2⟩:=head_slash y;rw [List.nil_append,textD_step _ (by simp),if_pos h1,h2]
   rfl
 | succ n ih =>
   intro x y h
   by_cases hx:x=[]
   ·subst hx
    exact ih [] y (by simp)
   ·have hl:0 < x.length:=List.length_pos_iff.2 hx
    rw [textD_step (x++47 :: y) (by simp),textD_step x hx]
    by_cases hh:headOk x
    ·rw [if_pos hh,if_pos (head_app x _ hx hh),at_left x _ 0 hl,List.drop_append_of_le_length hh.2.1]
     have:0 < wideC (at_ x 0):=Nat.pos_of_ne_zero hh.1;exact ih _ y (by rw [List.length_drop];omega)
    ·rw [if_neg hh,if_neg (fun h => hh (head_cut x y hx h))]
     rfl
theorem text_join (x y:List UInt8):textD (x++47 :: y)=(textD x && textD y):=text_slash _ x y (Nat.le_refl _)
def partsL:List UInt8 → List (List UInt8)
 | [] => [[]]
 | b :: l => if b=47 then [] :: partsL l else (b :: (partsL l).headD []) :: (partsL l).tail
theorem parts_ne (l:List UInt8):partsL l≠[]:=by
 cases l with
 | nil => simp [partsL]
 | cons b l => unfold partsL;split<;>simp
theorem parts_plain (x:List UInt8) (h:(47:UInt8) ∉ x):partsL x=[x]:=by
 induction x with
 | nil => rfl
 | cons b x ih =>
   have hb:b≠47:=fun e => h (by simp [e])
   rw [partsL,if_neg hb,ih (fun h' => h (List.mem_cons_of_mem _ h'))]
   rfl
theorem parts_app (x y:List UInt8):partsL (x++47 :: y)=partsL x++partsL y:=by
 induction x with
 | nil => simp [partsL]
 | cons b x ih =>
   by_cases hb:b=47
   ·subst hb
    simp [partsL,ih]
   ·rw [List.cons_append,partsL,if_neg hb,partsL,if_neg hb,ih]
    cases hp:partsL x with
    | nil => exact absurd hp (parts_ne x)
    | cons p ps => simp
theorem parts_noslash (l:List UInt8):∀ p ∈ partsL l,(47:UInt8) ∉ p:=by
 induction l with
 | nil => simp [partsL]
 | cons b l ih =>
   unfold partsL
   by_cases hb:b=47
   ·rw [if_pos hb]
    intro p hp;rcases List.mem_cons.1 hp with rfl | hp
    ·simp
    ·exact ih p hp
   ·rw [if_neg hb]
    cases hq:partsL l with
    | nil => exact absurd hq (parts_ne l)
    | cons q qs =>
      rw [hq] at ih;intro p hp;rcases List.mem_cons.1 hp with rfl | hp
      ·simp only [List.headD_cons]
       intro h;rcases List.mem_cons.1 h with h | h
       ·exact hb h.symm
       ·exact ih q (by simp) h
      ·exact ih p (List.mem_cons_of_mem _ hp)
theorem parts_cut (l:List UInt8):(0≤indexByte l 47 → partsL l=l.take (indexByte l 47).toNat :: partsL (l.drop ((indexByte l 47).toNat+1)))∧(¬ 0≤indexByte l 47 → partsL l=[l]):=by
 induction l with
 | nil => exact ⟨fun h => by simp [indexByte] at h,fun _ => rfl⟩
 | cons b l ih =>
   have hge:=indexByte_ge l 47
   by_cases hb:b=47
   ·subst hb
    have e:indexByte ((47:UInt8) :: l) 47=0:=by simp [indexByte]
    rw [e];exact ⟨fun _ => by simp [partsL],fun h => absurd (by omega) h⟩
   ·have hbb:(b == 47)=false:=by simpa using hb
    by_cases hi:indexByte l 47 = -1
    ·have e:indexByte (b :: l) 47 = -1:=by simp [indexByte,hbb,hi]
     rw [e];refine ⟨fun h => absurd h (by omega),fun _ => ?_⟩
     rw [partsL,if_neg hb,ih.2 (by omega)]
     rfl
    ·have hi':(indexByte l 47 == -1)=false:=by simpa using hi
     have e:indexByte (b :: l) 47=indexByte l 47+1:=by simp [indexByte,hbb,hi']
     rw [e,show (indexByte l 47+1).toNat=(indexByte l 47).toNat+1 by omega]
     refine ⟨fun _ => ?_,fun h => absurd (by omega) h⟩
     rw [partsL,if_neg hb,ih.1 (by omega)]
     rfl
theorem parts_text (n:Nat):∀ l:List UInt8,l.length≤n → textD l=true → ∀ p ∈ partsL l,textD p=true:=by
 induction n with
 | zero =>
   intro l h _ p hp;have:l=[]:=List.length_eq_zero_iff.1 (by omega)
   subst this;simp [partsL] at hp;subst hp;rfl
 | succ n ih =>
   intro l h ht p hp;obtain ⟨h1,h2⟩:=parts_cut l
   by_cases hi:0≤indexByte l 47
   ·rw [h1 hi] at hp
    obtain ⟨k,hk⟩:∃ k:Nat,indexByte l 47=k:=⟨(indexByte l 47).toNat,by omega⟩
    obtain ⟨hlt,hge⟩:=List.getElem?_eq_some_iff.1 (indexByte_some hk).1;rw [hk] at hp
    have hs:l=l.take k++47 :: l.drop (k+1):=by
     rw [← hge,List.getElem_cons_drop,List.take_append_drop]
    rw [hs,text_join,Bool.and_eq_true] at ht;rcases List.mem_cons.1 hp with rfl | hp
    ·exact ht.1
    ·exact ih _ (by rw [List.length_drop];omega) ht.2 p hp
   ·rw [h2 hi] at hp
    rcases List.mem_cons.1 hp with rfl | hp
    ·exact ht
    ·cases hp
def joinP (c p:List UInt8):List UInt8:=if p=[] ∨ p=[46] then c else if c=[] then p else c++47 :: p
def goC:List UInt8 → List (List UInt8) → Option (List UInt8)
 | c,[] => some c
 | c,p :: ps => if p=[46,46] then none else goC (joinP c p) ps
def goP:List UInt8 → List (List UInt8) → Option (List UInt8)
 | c,[] => some c
 | c,p :: ps => if p=[46,46] ∨ 200 < (joinP c p).length then none else goP (joinP c p) ps
theorem joinP_le (c p:List UInt8):c.length≤(joinP c p).length:=by
 unfold joinP
 split
 ·exact Nat.le_refl _
 ·split
  ·next h => simp [h]
  ·simp
theorem goC_le (ps:List (List UInt8)):∀ c a,goC c ps=some a → c.length≤a.length:=by
 induction ps with
 | nil => intro c a h;cases h;exact Nat.le_refl _
 | cons p ps ih =>
   intro c a h;unfold goC at h
   split at h
   ·cases h
   ·exact Nat.le_trans (joinP_le c p) (ih _ _ h)
theorem goP_eq (ps:List (List UInt8)):∀ c,c.length≤200 → goP c ps=(goC c ps).bind fun a => if a.length≤200 then some a else none:=by
 induction ps with
 | nil => intro c h;simp [goP,goC,h]
 | cons p ps ih =>
   intro c h;unfold goP goC
   by_cases h1:p=[46,46]
   ·rw [if_pos (.inl h1),if_pos h1];rfl
   ·by_cases h2:200 < (joinP c p).length
    ·rw [if_pos (.inr h2),if_neg h1]
     cases hg:goC (joinP c p) ps with
     | none => rfl
     | some a =>
       have:=goC_le ps _ _ hg;rw [Option.bind_some,if_neg (by omega)]
    ·rw [if_neg (fun h => h.elim h1 h2),if_neg h1]
     exact ih _ (by omega)
def cleanD (T P:Int) (l:List UInt8):List UInt8 × Int:=
 if textD l=false then ([],T) else if l.headD 47=47 then ([],P) else
  match goC [] (partsL l) with
  | none => ([],P)
  | some a => if a=[] ∨ 200 < a.length then ([],P) else (a,0)
def keptL (ps:List (List UInt8)):List (List UInt8):=ps.filter fun p => !(p == [] || p == [46])
def withSlash:List (List UInt8) → List UInt8
 | [] => []
 | [p] => p
 | p :: q :: ps => p++47 :: withSlash (q :: ps)
theorem slash_snoc (qs:List (List UInt8)) (p:List UInt8):qs≠[] → withSlash (qs++[p])=withSlash qs++47 :: p:=by
 induction qs with
 | nil => intro h;exact absurd rfl h
 | cons q qs ih =>
   intro _
   cases qs with
   | nil => rfl
   | cons r qs =>
     have:=ih (by simp)
     simp only [List.cons_append] at this ⊢;rw [withSlash,this,withSlash];simp
theorem slash_nil (qs:List (List UInt8)) (h:∀ q ∈ qs,q≠[]):withSlash qs=[] ↔ qs=[]:=by
 constructor
 ·intro e
  cases qs with
  | nil => rfl
  | cons q qs =>
    cases qs with
    | nil => exact absurd e (h q (by simp))
    | cons r qs => simp [withSlash] at e
 ·rintro rfl;rfl
theorem kept_ne (ps:List (List UInt8)):∀ q ∈ keptL ps,q≠[]∧q≠[46]∧q ∈ ps:=by
 intro q hq;obtain ⟨h1,h2⟩:=List.mem_filter.1 hq;simp at h2;exact ⟨h2.1,h2.2,h1⟩
theorem goC_eq (ps:List (List UInt8)):∀ qs:List (List UInt8),(∀ q ∈ qs,q≠[]) →
 goC (withSlash qs) ps=if [46,46] ∈ ps then none else some (withSlash (qs++keptL ps)):=by
 induction ps with
 | nil => intro qs _;simp [goC,keptL]
 | cons p ps ih =>
   intro qs hqs;unfold goC
   by_cases h1:p=[46,46]
   ·rw [if_pos h1,if_pos (by simp [h1])]
   ·rw [if_neg h1]
    have hm:([46,46] ∈ p :: ps) ↔ [46,46] ∈ ps:=by
     rw [List.mem_cons];exact ⟨fun h => h.elim (fun e => absurd e.symm h1) id,.inr⟩
    by_cases h2:p=[] ∨ p=[46]
    ·have e:joinP (withSlash qs) p=withSlash qs:=by unfold joinP;rw [if_pos h2]
     have k:keptL (p :: ps)=keptL ps:=by
      unfold keptL;rw [List.filter_cons,if_neg (by simpa using fun h => h2.resolve_left h)]
     rw [e,ih qs hqs,k];simp only [hm]
    ·have k:keptL (p :: ps)=p :: keptL ps:=by
      unfold keptL;rw [List.filter_cons,if_pos (by simpa using h2)]
     have e:joinP (withSlash qs) p=withSlash (qs++[p]):=by
      unfold joinP;rw [if_neg h2]
      by_cases hq:qs=[]
      ·subst hq;rfl
      ·rw [if_neg (fun h => hq ((slash_nil qs hqs).1 h)),slash_snoc qs p hq]
     rw [e,ih (qs++[p]) (by
      intro q hq;rcases List.mem_append.1 hq with h | h
      ·exact hqs q h
      ·simp at h;subst h;exact fun e => h2 (.inl e)),k]
     simp only [hm,List.append_assoc,List.singleton_append]
theorem goC_parts (l:List UInt8):goC [] (partsL l)=if [46,46] ∈ partsL l then none else some (withSlash (keptL (partsL l))):=by
 have:=goC_eq (partsL l) [] (by simp)
 rwa [List.nil_append] at this
theorem clean_ok (T P:Int) (hT:T≠0) (hP:P≠0) (l a:List UInt8):cleanD T P l=(a,0) ↔
 (textD l=true∧l.headD 47≠47∧[46,46] ∉ partsL l∧a=withSlash (keptL (partsL l))∧keptL (partsL l)≠[]∧a.length≤200):=by
 unfold cleanD;rw [goC_parts];have hk:∀ q ∈ keptL (partsL l),q≠[]:=fun q hq => (kept_ne _ q hq).1
 cases ht:textD l with
 | false => simp [hT]
 | true =>
   rw [if_neg (by simp)]
   by_cases h0:l.headD 47=47
   ·rw [if_pos h0]
    exact ⟨fun h => absurd (Prod.mk.injEq .. ▸ h).2 hP,fun h => absurd h0 h.2.1⟩
   ·rw [if_neg h0]
    by_cases hm:[46,46] ∈ partsL l
    ·rw [if_pos hm]
     simp [hP,hm]
    ·rw [if_neg hm]
     simp only
     by_cases hn:keptL (partsL l)=[]
     ·rw [if_pos (.inl (by rw [hn];rfl))]
      simp [hP,hn]
     ·have hne:withSlash (keptL (partsL l))≠[]:=fun e => hn ((slash_nil _ hk).1 e)
      by_cases h2:200 < (withSlash (keptL (partsL l))).length
      ·rw [if_pos (.inr h2)]
       constructor
       ·intro h;simp [hP] at h
       ·rintro ⟨_,_,_,rfl,_,h⟩;omega
      ·rw [if_neg (fun h => h.elim hne h2)]
       constructor
       ·intro h
        obtain ⟨rfl,_⟩:=Prod.mk.injEq .. ▸ h;exact ⟨trivial,h0,hm,rfl,hn,by omega⟩
       ·rintro ⟨_,_,_,rfl,_,_⟩;rfl
theorem parts_with (qs:List (List UInt8)) (hq:qs≠[]) (h:∀ q ∈ qs,(47:UInt8) ∉ q):partsL (withSlash qs)=qs:=by
 induction qs with
 | nil => exact absurd rfl hq
 | cons q qs ih =>
   cases qs with
   | nil => exact parts_plain q (h q (by simp))
   | cons r qs =>
     rw [withSlash,parts_app,parts_plain q (h q (by simp)),ih (by simp) (fun p hp => h p (List.mem_cons_of_mem _ hp))]
     rfl
theorem text_with (qs:List (List UInt8)) (h:∀ q ∈ qs,textD q=true):textD (withSlash qs)=true:=by
 induction qs with
 | nil => rfl
 | cons q qs ih =>
   cases qs with
   | nil => exact h q (by simp)
   | cons r qs =>
     rw [withSlash,text_join,h q (by simp),ih (fun p hp => h p (List.mem_cons_of_mem _ hp))]
     rfl
theorem head_with (qs:List (List UInt8)) (hq:qs≠[]) (h:∀ q ∈ qs,q≠[]∧(47:UInt8) ∉ q):(withSlash qs).headD 47≠47:=by
 have first:∀ q:List UInt8,q≠[] → (47:UInt8) ∉ q → ∀ z:List UInt8,(q++z).headD 47≠47:=by
  intro q hq hn z
  cases q with
  | nil => exact absurd rfl hq
  | cons b q => exact fun e => hn (by simp at e;simp [e])
 cases qs with
 | nil => exact absurd rfl hq
 | cons q qs =>
   obtain ⟨h1,h2⟩:=h q (by simp)
   cases qs with
   | nil =>
     have:=first q h1 h2 []
     rwa [List.append_nil] at this
   | cons r qs => exact first q h1 h2 _
theorem clean_parts (T P:Int) (hT:T≠0) (hP:P≠0) (l a:List UInt8) (h:cleanD T P l=(a,0)) :
 ∃ qs:List (List UInt8),qs≠[]∧(∀ q ∈ qs,q≠[]∧q≠[46]∧q≠[46,46]∧(47:UInt8) ∉ q∧textD q=true)∧a=withSlash qs∧keptL (partsL l)=qs∧a.length≤200∧textD l=true∧l.headD 47≠47∧[46,46] ∉ partsL l:=by
 obtain ⟨h1,h2,h3,h4,h5,h6⟩:=(clean_ok T P hT hP l a).1 h;refine ⟨_,h5,fun q hq => ?_,h4,rfl,h6,h1,h2,h3⟩
 obtain ⟨k1,k2,k3⟩:=kept_ne _ q hq;exact ⟨k1,k2,fun e => h3 (e ▸ k3),parts_noslash l q k3,parts_text _ l (Nat.le_refl _) h1 q k3⟩
theorem kept_id (qs:List (List UInt8)) (h:∀ q ∈ qs,q≠[]∧q≠[46]):keptL qs=qs:=
 List.filter_eq_self.2 fun q hq => by simpa using h q hq
theorem clean_like (T P:Int) (hT:T≠0) (hP:P≠0) (qs:List (List UInt8)) (x:List UInt8) (hq:qs≠[]) (h:∀ q ∈ qs,q≠[]∧q≠[46]∧q≠[46,46]∧(47:UInt8) ∉ q∧textD q=true)
 (hl:(withSlash qs).length≤200) (ht:textD x=true) (h0:x.headD 47≠47) (hp:∃ A B,partsL x=A++qs++B∧(∀ p ∈ A,p=[] ∨ p=[46])∧(∀ p ∈ B,p=[] ∨ p=[46])):cleanD T P x=(withSlash qs,0):=by
 obtain ⟨A,B,hp,hA,hB⟩:=hp;have none_:∀ C:List (List UInt8),(∀ p ∈ C,p=[] ∨ p=[46]) → keptL C=[]:=fun C hC => List.filter_eq_nil_iff.2 fun p hp => by simpa using fun e => (hC p hp).resolve_left e
 have hk:keptL (partsL x)=qs:=by
  have e:keptL (partsL x)=keptL A++keptL qs++keptL B:=by rw [hp];unfold keptL;rw [List.filter_append,List.filter_append]
  rw [e,none_ A hA,none_ B hB,kept_id qs fun q hq => ⟨(h q hq).1,(h q hq).2.1⟩]
  simp
 refine (clean_ok T P hT hP x _).2 ⟨ht,h0,?_,by rw [hk],by rw [hk];exact hq,hl⟩
 rw [hp];intro hm;rcases List.mem_append.1 hm with hm | hm
 ·rcases List.mem_append.1 hm with hm | hm
  ·rcases hA _ hm with e | e<;>cases e
  ·exact (h _ hm).2.2.1 rfl
 ·rcases hB _ hm with e | e<;>cases e
theorem clean_self (T P:Int) (hT:T≠0) (hP:P≠0) (l a:List UInt8) (h:cleanD T P l=(a,0)):cleanD T P a=(a,0)∧a≠[]∧a.headD 47≠47∧a.length≤200:=by
 obtain ⟨qs,hq,hqs,rfl,_,hl,_⟩:=clean_parts T P hT hP l a h;have hh:=head_with qs hq fun q h => ⟨(hqs q h).1,(hqs q h).2.2.2.1⟩
 refine ⟨clean_like T P hT hP qs _ hq hqs hl (text_with qs fun q h => (hqs q h).2.2.2.2) hh ⟨[],[],by rw [parts_with qs hq fun q h => (hqs q h).2.2.2.1];simp,by simp,by simp⟩,fun e => hq ((slash_nil qs fun q h => (hqs q h).1).1 e),hh,hl⟩
theorem clean_goP (T P:Int) (l:List UInt8):cleanD T P l=if textD l=false then ([],T) else if l.head? = some 47 then ([],P) else
 match goP [] (partsL l) with
 | none => ([],P)
 | some a => if a=[] then ([],P) else (a,0):=by
 unfold cleanD
 split
 ·rfl
 ·by_cases hl:l=[]
  ·subst hl
   simp [partsL,goP,joinP]
  ·have hh:l.headD 47=47 ↔ l.head? = some 47:=by
    cases l with
    | nil => exact absurd rfl hl
    | cons b t => simp
   simp only [hh]
   split
   ·rfl
   ·rw [goP_eq _ [] (by simp)]
    cases hg:goC [] (partsL l) with
    | none => rfl
    | some a =>
      rw [Option.bind_some]
      by_cases h2:a.length≤200
      ·rw [if_pos h2]
       by_cases ha:a=[]
       ·simp [ha]
       ·simp [ha];omega
      ·rw [if_neg h2]
       show (if a=[] ∨ 200 < a.length then _ else _)=_
       rw [if_pos (.inr (by omega))]
def targetD (T P:Int) (l:List UInt8):Int:=if textD l=false then T else if l=[] ∨ 200 < l.length then P else 0
end Go.Proofs.YtnpkcneojilmkaaGreatDoor.Path
end
section
namespace Go.Proofs.YtnpkcneojilmkaaGreatDoor.Rec
open Go.Lib Path
set_option linter.unusedVariables false
def digC (n:Nat):UInt8:=UInt8.ofNat (48+n % 10)
theorem digC_nat (n:Nat):(digC n).toNat=48+n % 10:=by
 unfold digC;rw [UInt8.toNat_ofNat'];omega
def decL (n:Nat):List UInt8:=if n < 10 then [digC n] else decL (n / 10)++[digC n]
termination_by n
decreasing_by omega
theorem decL_small {n:Nat} (h:n < 10):decL n=[digC n]:=by rw [decL,if_pos h]
theorem decL_great {n:Nat} (h:¬ n < 10):decL n=decL (n / 10)++[digC n]:=by rw [decL,if_neg h]
theorem decL_pos (n:Nat):0 < (decL n).length:=by
 by_cases h:n < 10
 ·rw [decL_small h];simp
 ·rw [decL_great h];simp
theorem dec_step (m:Nat) (h:m≠0) (s:List UInt8):decL m++s=(if m / 10=0 then [] else decL (m / 10))++digC m :: s:=by
 by_cases h10:m < 10
 ·rw [decL_small h10,if_pos (by omega)];rfl
 ·rw [decL_great h10,if_neg (by omega)];simp
theorem dec_bounds (n:Nat):0 < n → 10 ^ ((decL n).length - 1)≤n∧n < 10 ^ (decL n).length:=by
 induction n using Nat.strongRecOn with
 | ind n ih =>
   intro hn
   by_cases h:n < 10
   ·rw [decL_small h]
    simp;omega
   ·rw [decL_great h,List.length_append,List.length_singleton,Nat.add_sub_cancel]
    obtain ⟨h1,h2⟩:=ih (n / 10) (by omega) (by omega)
    have hp:=decL_pos (n / 10)
    have e:10 ^ (decL (n / 10)).length=10 * 10 ^ ((decL (n / 10)).length - 1):=by
     rw [← Nat.pow_succ',Nat.succ_eq_add_one,Nat.sub_add_cancel hp]
    refine ⟨by rw [e];omega,?_⟩
    rw [Nat.pow_succ];omega
theorem dec_mono {a b:Nat} (h:a≤b):(decL a).length≤(decL b).length:=by
 by_cases h0:a=0
 ·subst h0
  rw [decL_small (by omega)]
  exact decL_pos b
 ·obtain ⟨h1,_⟩:=dec_bounds a (by omega)
  obtain ⟨_,h2⟩:=dec_bounds b (by omega)
  have h3:10 ^ ((decL a).length - 1) < 10 ^ (decL b).length:=by omega
  have:=(Nat.pow_lt_pow_iff_right (by omega:1 < 10)).1 h3
  have:=decL_pos a;omega
def lineN (m:Nat):Nat:=if (decL (m+(decL m).length)).length=(decL m).length then m+(decL m).length else m+(decL m).length+1
theorem lineN_ge (m:Nat):m≤lineN m∧lineN m≤m+(decL m).length+1:=by
 unfold lineN
 split<;>omega
theorem dec_le (n k:Nat) (hk:0 < k) (h:n < 10 ^ k):(decL n).length≤k:=by
 by_cases h0:n=0
 ·subst h0
  rw [decL_small (by omega)]
  exact hk
 ·obtain ⟨h1,_⟩:=dec_bounds n (by omega)
  have:=(Nat.pow_lt_pow_iff_right (by omega:1 < 10)).1 (Nat.lt_of_le_of_lt h1 h)
  omega
theorem lin_pow (d:Nat):d+1 < 10 ^ (d+1) - 10 ^ d:=by
 induction d with
 | zero => decide
 | succ d ih =>
   have e1:10 ^ (d+1+1)=10 * 10 ^ (d+1):=Nat.pow_succ';have e2:10 ^ (d+1)=10 * 10 ^ d:=Nat.pow_succ';omega
theorem lineN_eq (m:Nat) (hm:0 < m):(decL (lineN m)).length+m=lineN m:=by
 unfold lineN
 by_cases h:(decL (m+(decL m).length)).length=(decL m).length
 ·rw [if_pos h,h];omega
 ·rw [if_neg h]
  obtain ⟨d,hd⟩:∃ d,(decL m).length=d+1:=⟨(decL m).length - 1,by have:=decL_pos m;omega⟩
  obtain ⟨h1,h2⟩:=dec_bounds m hm;rw [hd] at h h1 h2 ⊢
  have hge:(decL (m+(d+1))).length ≥ d+1:=by
   have:=dec_mono (show m≤m+(d+1) by omega)
   omega
  have hl:=lin_pow (d+1);have hle:m+(d+1)+1 < 10 ^ (d+1+1):=by omega
  have e1:=dec_le (m+(d+1)) (d+1+1) (by omega) (by omega)
  have e2:=dec_le (m+(d+1)+1) (d+1+1) (by omega) hle
  have e3:=dec_mono (show m+(d+1)≤m+(d+1)+1 by omega)
  omega
theorem lineN_least (m n:Nat) (h1:m≤n) (h2:n < lineN m):(decL n).length+m≠n:=by
 unfold lineN at h2;have hmo:=dec_mono h1
 by_cases h:(decL (m+(decL m).length)).length=(decL m).length
 ·rw [if_pos h] at h2
  omega
 ·rw [if_neg h] at h2
  by_cases he:n=m+(decL m).length
  ·subst he
   intro e;exact h (by omega)
  ·omega
def isDig (b:UInt8):Bool:=decide (48≤b.toNat∧b.toNat≤57)
def valL (l:List UInt8):Nat:=l.foldl (fun n b => n * 10+(b.toNat - 48)) 0
theorem valL_snoc (l:List UInt8) (b:UInt8):valL (l++[b])=valL l * 10+(b.toNat - 48):=by simp [valL]
theorem valL_lt (l:List UInt8) (h:∀ b ∈ l,isDig b=true):valL l < 10 ^ l.length:=by
 suffices H:∀ (l:List UInt8) (n k:Nat),(∀ b ∈ l,isDig b=true) → n < 10 ^ k → l.foldl (fun n b => n * 10+(b.toNat - 48)) n < 10 ^ (k+l.length) by
  have:=H l 0 0 h (by decide)
  rwa [Nat.zero_add] at this
 intro l
 induction l with
 | nil => intro n k _ hn;exact hn
 | cons b l ih =>
   intro n k hl hn;have hb:=hl b (by simp)
   simp only [isDig,decide_eq_true_eq] at hb;have:=ih (n * 10+(b.toNat - 48)) (k+1) (fun c hc => hl c (List.mem_cons_of_mem _ hc)) (by rw [Nat.pow_succ];omega)
   rwa [show k+(b :: l).length=k+1+l.length by rw [List.length_cons];omega]
def wholeD (l:List UInt8):Option Nat:=if l.length < 1 ∨ 18 < l.length then none else if l.all isDig then some (valL l) else none
def mayD (k v:List UInt8):Bool:=!k.contains 61 && !k.isEmpty && textD k && textD v && decide (k.length+v.length≤100000)
def bodyD (k v:List UInt8):List UInt8:=32 :: k++61 :: v++[10]
theorem bodyD_length (k v:List UInt8):(bodyD k v).length=k.length+v.length+3:=by
 simp only [bodyD,List.length_append,List.length_cons,List.length_nil];omega
def lineD (k v:List UInt8):List UInt8:=decL (lineN (bodyD k v).length)++bodyD k v
theorem lineD_length (k v:List UInt8):(lineD k v).length=lineN (bodyD k v).length:=by
 rw [lineD,List.length_append];exact lineN_eq _ (by rw [bodyD_length];omega)
def digN (l:List UInt8):Nat:=(l.takeWhile isDig).length
def recStep (R T:Int) (l:List UInt8):Except Int (List UInt8 × List UInt8 × Nat):=
 if digN l < 1 ∨ 7 < digN l ∨ l.getD 0 0=48 ∨ digN l=l.length ∨ l.getD (digN l) 0≠32 then .error R
 else if l.length < valL (l.take (digN l)) ∨ valL (l.take (digN l)) < digN l+4 ∨ l.getD (valL (l.take (digN l)) - 1) 0≠10 then .error R
 else
  let line:=(l.drop (digN l+1)).take (valL (l.take (digN l)) - 1 - (digN l+1))
  if indexByte line 61 < 1 then .error R
  else if textD line=false then .error T
  else .ok (line.take (indexByte line 61).toNat,line.drop ((indexByte line 61).toNat+1),valL (l.take (digN l)))
def recsGo (R T:Int):Nat → List UInt8 → List (List UInt8 × List UInt8) → List (List UInt8 × List UInt8) × Int
 | 0,_,acc => (acc,0)
 | n+1,l,acc => if l=[] then (acc,0) else match recStep R T l with
   | .error e => ([],e)
   | .ok (k,v,m) => recsGo R T n (l.drop m) (acc++[(k,v)])
def recsD (R T:Int) (l:List UInt8):List (List UInt8 × List UInt8) × Int:=recsGo R T l.length l []
theorem recStep_pos {R T:Int} {l k v:List UInt8} {m:Nat} (h:recStep R T l=.ok (k,v,m)):0 < m∧m≤l.length:=by
 unfold recStep at h
 split at h
 ·cases h
 ·split at h
  ·cases h
  ·next h2 =>
   dsimp only at h
   split at h
   ·cases h
   ·split at h
    ·cases h
    ·cases h
     omega
theorem recsGo_fuel (R T:Int) (n:Nat):∀ m l acc,l.length≤n → l.length≤m → recsGo R T n l acc=recsGo R T m l acc:=by
 induction n with
 | zero =>
   intro m l acc h _;obtain rfl:l=[]:=List.length_eq_zero_iff.1 (by omega)
   cases m<;>simp [recsGo]
 | succ n ih =>
   intro m l acc h1 h2
   cases m with
   | zero =>
     obtain rfl:l=[]:=List.length_eq_zero_iff.1 (by omega)
     simp [recsGo]
   | succ m =>
     unfold recsGo
     by_cases hl:l=[]
     ·rw [if_pos hl,if_pos hl]
     ·rw [if_neg hl,if_neg hl]
      cases hs:recStep R T l with
      | error e => rfl
      | ok x =>
        obtain ⟨k,v,j⟩:=x;have:=recStep_pos hs;have hl':0 < l.length:=List.length_pos_iff.2 hl;exact ih m _ _ (by rw [List.length_drop];omega) (by rw [List.length_drop];omega)
def recsFrom (R T:Int) (l:List UInt8) (acc:List (List UInt8 × List UInt8)):List (List UInt8 × List UInt8) × Int:=recsGo R T l.length l acc
theorem recsFrom_nil (R T:Int) (acc:List (List UInt8 × List UInt8)):recsFrom R T [] acc=(acc,0):=rfl
theorem recsFrom_step (R T:Int) (l:List UInt8) (hl:l≠[]) (acc:List (List UInt8 × List UInt8)):recsFrom R T l acc=match recStep R T l with
 | .error e => ([],e)
 | .ok (k,v,m) => recsFrom R T (l.drop m) (acc++[(k,v)]):=by
 have hl':0 < l.length:=List.length_pos_iff.2 hl;unfold recsFrom;obtain ⟨n,hn⟩:∃ n,l.length=n+1:=⟨l.length - 1,by omega⟩
 rw [hn,recsGo,if_neg hl]
 cases hs:recStep R T l with
 | error e => rfl
 | ok x =>
   obtain ⟨k,v,j⟩:=x;have:=recStep_pos hs;exact recsGo_fuel R T _ _ _ _ (by rw [List.length_drop];omega) (Nat.le_refl _)
end Go.Proofs.YtnpkcneojilmkaaGreatDoor.Rec
end
section
namespace Go.Proofs.YtnpkcneojilmkaaGreatDoor.Rec
open Go.Lib Path
set_option linter.unusedVariables false
theorem head_cutC (c:UInt8) (hc:0 < c.toNat∧c.toNat < 128) (x y:List UInt8) (hx:x≠[]):headOk (x++c :: y) → headOk x:=by
 have hl:0 < x.length:=List.length_pos_iff.2 hx;rintro ⟨h1,h2,h3,h4⟩;have e0:=at_left x (c :: y) 0 hl;rw [e0] at h1 h2 h3 h4
 have hs:at_ (x++c :: y) x.length=c.toNat:=by
  unfold at_;simp [List.getD]
 have hw:wideC (at_ x 0)≤x.length:=by
  rcases Nat.lt_or_ge x.length (wideC (at_ x 0)) with h | h
  ·have:=h3 x.length h hl
   rw [hs] at this;unfold isCont at this;omega
  ·exact h
 refine ⟨h1,hw,fun k hk hk0 => ?_,?_⟩
 ·have:=h3 k hk hk0
  rwa [at_left x _ k (by omega)] at this
 ·by_cases hw:1 < x.length
  ·rwa [at_left x _ 1 hw] at h4
  ·unfold isBad
   omega
theorem head_one (c:UInt8) (hc:0 < c.toNat∧c.toNat < 128) (y:List UInt8):headOk (c :: y)∧wideC (at_ (c :: y) 0)=1:=by
 have e:at_ (c :: y) 0=c.toNat:=rfl;have hw:wideC c.toNat=1:=by unfold wideC;rw [if_neg (by omega),if_pos (by omega)]
 refine ⟨⟨by rw [e,hw];omega,by rw [e,hw];simp,fun k hk hk0 => ?_,?_⟩,by rw [e,hw]⟩
 ·rw [e,hw] at hk;omega
 ·rw [e,hw];unfold isBad;omega
theorem text_sepGo (c:UInt8) (hc:0 < c.toNat∧c.toNat < 128) (n:Nat):∀ x y:List UInt8,x.length≤n → textD (x++c :: y)=(textD x && textD y):=by
 induction n with
 | zero =>
   intro x y h;obtain rfl:x=[]:=List.length_eq_zero_iff.1 (by omega)
   obtain ⟨h1,h2⟩:=head_one c hc y;rw [List.nil_append,textD_step _ (by simp),if_pos h1,h2]
   rfl
 | succ n ih =>
   intro x y h
   by_cases hx:x=[]
   ·subst hx
    exact ih [] y (by simp)
   ·have hl:0 < x.length:=List.length_pos_iff.2 hx
    rw [textD_step (x++c :: y) (by simp),textD_step x hx]
    by_cases hh:headOk x
    ·rw [if_pos hh,if_pos (head_app x _ hx hh),at_left x _ 0 hl,List.drop_append_of_le_length hh.2.1]
     have:0 < wideC (at_ x 0):=Nat.pos_of_ne_zero hh.1;exact ih _ y (by rw [List.length_drop];omega)
    ·rw [if_neg hh,if_neg (fun h => hh (head_cutC c hc x y hx h))]
     rfl
theorem text_sep (c:UInt8) (hc:0 < c.toNat∧c.toNat < 128) (x y:List UInt8):textD (x++c :: y)=(textD x && textD y):=text_sepGo c hc _ x y (Nat.le_refl _)
theorem digC_dig (n:Nat):isDig (digC n)=true:=by
 unfold isDig;rw [digC_nat];simp;omega
theorem decL_dig (n:Nat):∀ b ∈ decL n,isDig b=true:=by
 induction n using Nat.strongRecOn with
 | ind n ih =>
   by_cases h:n < 10
   ·rw [decL_small h]
    intro b hb;rw [List.mem_singleton.1 hb];exact digC_dig n
   ·rw [decL_great h]
    intro b hb;rcases List.mem_append.1 hb with h1 | h1
    ·exact ih _ (by omega) b h1
    ·rw [List.mem_singleton.1 h1]
     exact digC_dig n
theorem valL_dec (n:Nat):valL (decL n)=n:=by
 induction n using Nat.strongRecOn with
 | ind n ih =>
   by_cases h:n < 10
   ·rw [decL_small h]
    show 0 * 10+((digC n).toNat - 48)=n;rw [digC_nat];omega
   ·rw [decL_great h,valL_snoc,ih _ (by omega),digC_nat]
    omega
theorem decL_head (n:Nat) (hn:0 < n):(decL n).getD 0 0≠48:=by
 induction n using Nat.strongRecOn with
 | ind n ih =>
   by_cases h:n < 10
   ·rw [decL_small h]
    intro e;have:=congrArg UInt8.toNat e;simp only [List.getD_cons_zero,digC_nat] at this;simp at this;omega
   ·rw [decL_great h]
    have:=ih (n / 10) (by omega) (by omega)
    have hp:=decL_pos (n / 10);rw [List.getD,List.getElem?_append_left hp];exact this
theorem takeWhile_dig (d x:List UInt8) (hd:∀ b ∈ d,isDig b=true) (hx:∀ b r,x=b :: r → isDig b=false):(d++x).takeWhile isDig=d:=by
 induction d with
 | nil =>
   cases x with
   | nil => rfl
   | cons b r => rw [List.nil_append,List.takeWhile_cons,hx b r rfl];rfl
 | cons c d ih =>
   rw [List.cons_append,List.takeWhile_cons,hd c (by simp),if_pos rfl,ih fun b hb => hd b (List.mem_cons_of_mem _ hb)]
theorem index_first (x y:List UInt8) (c:UInt8) (h:x.contains c=false):indexByte (x++c :: y) c=x.length:=by
 induction x with
 | nil => simp [indexByte]
 | cons b x ih =>
   rw [List.contains_cons,Bool.or_eq_false_iff] at h
   have hb:(b == c)=false:=by
    have:=h.1;rw [beq_eq_false_iff_ne] at this ⊢;exact fun e => this e.symm
   have hi:=ih h.2;have hn:(indexByte (x++c :: y) c == -1)=false:=by rw [hi,beq_eq_false_iff_ne];omega
   have e:indexByte (b :: (x++c :: y)) c=indexByte (x++c :: y) c+1:=by simp [indexByte,hb,hn]
   rw [List.cons_append,e,hi,List.length_cons];rfl
theorem mayD_spec {k v:List UInt8} (h:mayD k v=true):k.contains 61=false∧k≠[]∧textD k=true∧textD v=true∧k.length+v.length≤100000:=by
 simp only [mayD,Bool.and_eq_true,Bool.not_eq_true',decide_eq_true_eq,List.isEmpty_eq_false_iff] at h;exact ⟨h.1.1.1.1,h.1.1.1.2,h.1.1.2,h.1.2,h.2⟩
theorem line_parts {k v:List UInt8} (h:mayD k v=true):∃ d,lineD k v=d++bodyD k v∧(∀ b ∈ d,isDig b=true)∧valL d=(lineD k v).length∧1≤d.length∧d.length≤7∧d.getD 0 0≠48∧(lineD k v).length=d.length+k.length+v.length+3:=by
 obtain ⟨_,_,_,_,hl⟩:=mayD_spec h;have hb:=bodyD_length k v;have hpos:0 < (bodyD k v).length:=by omega
 refine ⟨decL (lineN (bodyD k v).length),rfl,decL_dig _,by rw [valL_dec,lineD_length],decL_pos _,?_,decL_head _ (by have:=(lineN_ge (bodyD k v).length).1;omega),?_⟩
 ·refine dec_le _ 7 (by omega) ?_
  have h1:=(lineN_ge (bodyD k v).length).2;have h2:=dec_le (bodyD k v).length 6 (by omega) (by omega)
  omega
 ·rw [lineD,List.length_append];omega
theorem recStep_line (R T:Int) {k v:List UInt8} (h:mayD k v=true) (rest:List UInt8):recStep R T (lineD k v++rest)=.ok (k,v,(lineD k v).length):=by
 obtain ⟨m1,m2,m3,m4,m5⟩:=mayD_spec h;obtain ⟨d,hd,hdig,hval,hd1,hd7,hd0,hlen⟩:=line_parts h;have hk:0 < k.length:=List.length_pos_iff.2 m2;have hl:lineD k v++rest=d++(32 :: (k++61 :: v++10 :: rest)):=by rw [hd];simp [bodyD]
 have hN:digN (lineD k v++rest)=d.length:=by
  unfold digN;rw [hl,takeWhile_dig d _ hdig fun b r e => by cases e;decide]
 have hL:(lineD k v++rest).length=d.length+(k.length+v.length+3)+rest.length:=by rw [List.length_append,hlen];omega
 have hT:(lineD k v++rest).take d.length=d:=by rw [hl];exact List.take_left
 have hD:(lineD k v++rest).drop (d.length+1)=k++61 :: v++10 :: rest:=by
  rw [hl,← List.drop_drop,List.drop_left];rfl
 have g0:(lineD k v++rest).getD 0 0=d.getD 0 0:=by
  rw [hl,List.getD,List.getElem?_append_left (by omega)];rfl
 have g1:(lineD k v++rest).getD d.length 0=32:=by
  rw [hl,List.getD,List.getElem?_append_right (Nat.le_refl _),Nat.sub_self];rfl
 have hkv:(k++61 :: v).length=k.length+v.length+1:=by rw [List.length_append,List.length_cons];omega
 have g2:(lineD k v++rest).getD ((lineD k v).length - 1) 0=10:=by
  rw [hl,List.getD,hlen,List.getElem?_append_right (by omega),show d.length+k.length+v.length+3 - 1 - d.length=(k++61 :: v).length+1 by rw [hkv];omega,List.getElem?_cons_succ,List.getElem?_append_right (Nat.le_refl _),Nat.sub_self]
  rfl
 unfold recStep;rw [hN,hT,hval,if_neg (by rw [hL];rintro (e | e | e | e | e);omega;omega;exact hd0 (g0 ▸ e);omega;exact e g1),if_neg (by rw [hL];rintro (e | e | e);omega;omega;exact e g2),hD]
 have hline:(k++61 :: v++10 :: rest).take ((lineD k v).length - 1 - (d.length+1))=k++61 :: v:=by
  rw [hlen,show d.length+k.length+v.length+3 - 1 - (d.length+1)=(k++61 :: v).length by rw [hkv];omega]
  exact List.take_left
 rw [hline]
 dsimp only
 rw [index_first k v 61 m1,if_neg (by omega),text_sep 61 (by decide) k v,m3,m4,if_neg (by simp),Int.toNat_natCast,List.take_left]
 rw [← List.drop_drop,List.drop_left];rfl
def linesD (l:List (List UInt8 × List UInt8)):List UInt8:=(l.map fun r => lineD r.1 r.2).flatten
theorem recs_lines (R T:Int) (l:List (List UInt8 × List UInt8)):∀ (rest:List UInt8) acc,(∀ r ∈ l,mayD r.1 r.2=true) → recsFrom R T (linesD l++rest) acc=recsFrom R T rest (acc++l):=by
 induction l with
 | nil => intro rest acc _;simp [linesD]
 | cons r l ih =>
   intro rest acc h;have hr:=h r (by simp)
   have e:linesD (r :: l)++rest=lineD r.1 r.2++(linesD l++rest):=by simp [linesD]
   have hne:lineD r.1 r.2++(linesD l++rest)≠[]:=by
    have h2:=(lineN_ge (bodyD r.1 r.2).length).1;have h3:=bodyD_length r.1 r.2;intro e;have:=congrArg List.length e;rw [List.length_append,lineD_length,List.length_nil] at this;omega
   rw [e,recsFrom_step R T _ hne,recStep_line R T hr];simp only;rw [List.drop_left,ih rest _ fun x hx => h x (List.mem_cons_of_mem _ hx)]
   simp
end Go.Proofs.YtnpkcneojilmkaaGreatDoor.Rec
end
