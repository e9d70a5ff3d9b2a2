/- Texts of this seat, merged: what the proof reaches. -/
import Derived.Lib.ValidU
import Derived.Lib.IndexLaws
section
namespace Go.Proofs.YtfhelebejclalaaDoor.Path
open Go.Lib
set_option linter.unusedVariables false
def wideC (c:Nat):Nat:=if c=0 then 0 else if c < 128 then 1 else if 194≤c∧c < 224 then 2 else if 224≤c∧c < 240 then 3 else if 240≤c∧c < 245 then 4 else 0
def at_ (l:List UInt8) (k:Nat):Nat:=(l.getD k 0).toNat
def isCont (c:Nat):Prop:=128≤c∧c≤191
instance (c:Nat):Decidable (isCont c):=inferInstanceAs (Decidable (_∧_))
def isBad (n c b:Nat):Prop:=(n=3∧(c=224∧b < 160 ∨ c=237∧159 < b)) ∨ (n=4∧(c=240∧b < 144 ∨ c=244∧143 < b))
instance (n c b:Nat):Decidable (isBad n c b):=inferInstanceAs (Decidable (_ ∨ _))
def headOk (l:List UInt8):Prop:=
 wideC (at_ l 0)≠0∧wideC (at_ l 0)≤l.length∧(∀ k,k < wideC (at_ l 0) → 0 < k → isCont (at_ l k))∧¬ isBad (wideC (at_ l 0)) (at_ l 0) (at_ l 1)
instance (l:List UInt8):Decidable (headOk l):=inferInstanceAs (Decidable (_∧_∧_∧_))
def textGo:Nat → List UInt8 → Bool
 | 0,_ => true
 | n+1,l => if l=[] then true else if headOk l then textGo n (l.drop (wideC (at_ l 0))) else false
def textD (l:List UInt8):Bool:=textGo l.length l
theorem wide_le (c:Nat):wideC c≤4:=by unfold wideC;repeat' split
                                      all_goals omega
theorem textGo_fuel (n:Nat):∀ m l,l.length≤n → l.length≤m → textGo n l=textGo m l:=by
 induction n with
 | zero =>
   intro m l h _;have:l=[]:=List.length_eq_zero_iff.1 (by omega)
   subst this
   cases m<;>simp [textGo]
 | succ n ih =>
   intro m l h1 h2
   cases m with
   | zero =>
     have:l=[]:=List.length_eq_zero_iff.1 (by omega)
     subst this;simp [textGo]
   | succ m =>
     unfold textGo
     by_cases hl:l=[]
     ·rw [if_pos hl,if_pos hl]
     ·rw [if_neg hl,if_neg hl]
      by_cases hh:headOk l
      ·rw [if_pos hh,if_pos hh]
       have:0 < wideC (at_ l 0):=Nat.pos_of_ne_zero hh.1;have hl':0 < l.length:=List.length_pos_iff.2 hl;exact ih m _ (by rw [List.length_drop];omega) (by rw [List.length_drop];omega)
      ·rw [if_neg hh,if_neg hh]
theorem textD_nil:textD []=true:=rfl
theorem textD_step (l:List UInt8) (hl:l≠[]):textD l=if headOk l then textD (l.drop (wideC (at_ l 0))) else false:=by
 have hl':0 < l.length:=List.length_pos_iff.2 hl;unfold textD;obtain ⟨n,hn⟩:∃ n,l.length=n+1:=⟨l.length - 1,by omega⟩
 rw [hn,textGo,if_neg hl]
 by_cases hh:headOk l
 ·rw [if_pos hh,if_pos hh]
  have:0 < wideC (at_ l 0):=Nat.pos_of_ne_zero hh.1;exact textGo_fuel _ _ _ (by rw [List.length_drop];omega) (Nat.le_refl _)
 ·rw [if_neg hh,if_neg hh]
theorem get_at (l:List UInt8) (k:Nat):((⟨l.toArray⟩:ByteArray).get! k).toNat=at_ l k:=by
 unfold at_ ByteArray.get!;simp only [Array.getElem!_eq_getD]
 by_cases h:k < l.length
 ·simp [Array.getD,List.getD,h]
 ·simp [Array.getD,List.getD,h]
  rfl
theorem decode_eq (l:List UInt8):decodeL l =
 (if at_ l 0 < 128 then (at_ l 0,1)
  else if at_ l 0 / 32=6∧(1 < l.length∧at_ l 1 / 64=2) then
   (if 128≤at_ l 0 % 32 * 64+at_ l 1 % 64 then (at_ l 0 % 32 * 64+at_ l 1 % 64,2) else (65533,1))
  else if at_ l 0 / 16=14∧(1 < l.length∧at_ l 1 / 64=2)∧(2 < l.length∧at_ l 2 / 64=2) then
   (if 2048≤at_ l 0 % 16 * 4096+at_ l 1 % 64 * 64+at_ l 2 % 64∧Utf8.valid (at_ l 0 % 16 * 4096+at_ l 1 % 64 * 64+at_ l 2 % 64:Nat)=true then (at_ l 0 % 16 * 4096+at_ l 1 % 64 * 64+at_ l 2 % 64,3) else (65533,1))
  else if at_ l 0 / 8=30∧(1 < l.length∧at_ l 1 / 64=2)∧(2 < l.length∧at_ l 2 / 64=2)∧(3 < l.length∧at_ l 3 / 64=2) then
   (if 65536≤at_ l 0 % 8 * 262144+at_ l 1 % 64 * 4096+at_ l 2 % 64 * 64+at_ l 3 % 64∧Utf8.valid (at_ l 0 % 8 * 262144+at_ l 1 % 64 * 4096+at_ l 2 % 64 * 64+at_ l 3 % 64:Nat)=true then (at_ l 0 % 8 * 262144+at_ l 1 % 64 * 4096+at_ l 2 % 64 * 64+at_ l 3 % 64,4) else (65533,1))
  else (65533,1)):=by
 unfold decodeL Utf8.decode;simp only [Nat.zero_add,get_at,show (⟨l.toArray⟩:ByteArray).size=l.length by simp [ByteArray.size],Utf8.runeError,ge_iff_le,Bool.and_eq_true,decide_eq_true_eq,beq_iff_eq,and_assoc]
theorem at_lt (l:List UInt8) (k:Nat):at_ l k < 256:=(l.getD k 0).toNat_lt
theorem valid_iff (c:Nat):Utf8.valid (c:Int)=true ↔ (c < 55296 ∨ (57344≤c∧c≤1114111)):=by
 unfold Utf8.valid;simp only [Bool.or_eq_true,Bool.and_eq_true,decide_eq_true_eq];omega
theorem head_decode (l:List UInt8) (hl:l≠[]) (h0:at_ l 0≠0) :
 (headOk l → ¬ ((decodeL l).1=65533∧(decodeL l).2=1)∧(decodeL l).2=wideC (at_ l 0))∧(¬ headOk l → (decodeL l).1=65533∧(decodeL l).2=1):=by
 have hl':0 < l.length:=List.length_pos_iff.2 hl;rw [decode_eq];simp only [valid_iff];have b0:=at_lt l 0;have b1:=at_lt l 1;have b2:=at_lt l 2;have b3:=at_lt l 3
 have key:headOk l ↔ wideC (at_ l 0)≠0∧wideC (at_ l 0)≤l.length∧(1 < wideC (at_ l 0) → isCont (at_ l 1))∧(2 < wideC (at_ l 0) → isCont (at_ l 2))∧(3 < wideC (at_ l 0) → isCont (at_ l 3))∧¬ isBad (wideC (at_ l 0)) (at_ l 0) (at_ l 1):=by
  have h4:=wide_le (at_ l 0);constructor
  ·rintro ⟨h1,h2,h3,h5⟩
   exact ⟨h1,h2,fun h => h3 1 h (by omega),fun h => h3 2 h (by omega),fun h => h3 3 h (by omega),h5⟩
  ·rintro ⟨h1,h2,h3,h5,h6,h7⟩
   refine ⟨h1,h2,fun k hk hk0 => ?_,h7⟩
   rcases (show k=1 ∨ k=2 ∨ k=3 by omega) with rfl | rfl | rfl
   ·exact h3 hk
   ·exact h5 hk
   ·exact h6 hk
 rw [key];generalize at_ l 0=c0 at *;generalize at_ l 1=c1 at *;generalize at_ l 2=c2 at *;generalize at_ l 3=c3 at *;generalize l.length=n at *;clear key hl
 by_cases h1:c0 < 128
 ·have hw:wideC c0=1:=by unfold wideC;rw [if_neg h0,if_pos h1]
  rw [hw,if_pos h1];unfold isBad;refine ⟨fun _ => ⟨by simp;omega,rfl⟩,fun h => absurd ?_ h⟩
  exact ⟨by omega,by omega,fun h => by omega,fun h => by omega,fun h => by omega,by omega⟩
 ·rw [if_neg h1]
  by_cases h2:194≤c0∧c0 < 224
  ·have hw:wideC c0=2:=by unfold wideC;rw [if_neg h0,if_neg h1,if_pos h2]
   rw [hw]
   by_cases hc:1 < n∧c1 / 64=2
   ·rw [if_pos ⟨by omega,hc⟩,if_pos (by omega)]
    unfold isCont isBad;refine ⟨fun _ => ⟨by simp,rfl⟩,fun h => absurd ?_ h⟩
    exact ⟨by omega,by omega,fun _ => by omega,fun h => by omega,fun h => by omega,by omega⟩
   ·rw [if_neg (by omega),if_neg (by omega),if_neg (by omega)]
    unfold isCont;refine ⟨fun h => absurd ?_ hc,fun _ => ⟨rfl,rfl⟩⟩
    have:=h.2.1;have:=h.2.2.1 (by omega)
    omega
  ·by_cases h3:224≤c0∧c0 < 240
   ·have hw:wideC c0=3:=by unfold wideC;rw [if_neg h0,if_neg h1,if_neg h2,if_pos h3]
    rw [hw,if_neg (by omega)]
    by_cases hc:(1 < n∧c1 / 64=2)∧(2 < n∧c2 / 64=2)
    ·rw [if_pos ⟨by omega,hc.1,hc.2⟩]
     by_cases hb:isBad 3 c0 c1
     ·rw [if_neg (by unfold isBad at hb;omega)]
      exact ⟨fun h => absurd hb h.2.2.2.2.2,fun _ => ⟨rfl,rfl⟩⟩
     ·rw [if_pos (by unfold isBad at hb;omega)]
      refine ⟨fun _ => ⟨by simp,rfl⟩,fun h => absurd ?_ h⟩
      unfold isCont;exact ⟨by omega,by omega,fun _ => by omega,fun _ => by omega,fun h => by omega,hb⟩
    ·rw [if_neg (by omega),if_neg (by omega)]
     unfold isCont;refine ⟨fun h => absurd ?_ hc,fun _ => ⟨rfl,rfl⟩⟩
     have:=h.2.1;have:=h.2.2.1 (by omega)
     have:=h.2.2.2.1 (by omega)
     omega
   ·by_cases h4:240≤c0∧c0 < 245
    ·have hw:wideC c0=4:=by unfold wideC;rw [if_neg h0,if_neg h1,if_neg h2,if_neg h3,if_pos h4]
     rw [hw,if_neg (by omega),if_neg (by omega)]
     by_cases hc:(1 < n∧c1 / 64=2)∧(2 < n∧c2 / 64=2)∧(3 < n∧c3 / 64=2)
     ·rw [if_pos ⟨by omega,hc.1,hc.2.1,hc.2.2⟩]
      by_cases hb:isBad 4 c0 c1
      ·rw [if_neg (by unfold isBad at hb;omega)]
       exact ⟨fun h => absurd hb h.2.2.2.2.2,fun _ => ⟨rfl,rfl⟩⟩
      ·rw [if_pos (by unfold isBad at hb;omega)]
       refine ⟨fun _ => ⟨by simp,rfl⟩,fun h => absurd ?_ h⟩
       unfold isCont;exact ⟨by omega,by omega,fun _ => by omega,fun _ => by omega,fun _ => by omega,hb⟩
     ·rw [if_neg (by omega)]
      unfold isCont;refine ⟨fun h => absurd ?_ hc,fun _ => ⟨rfl,rfl⟩⟩
      have:=h.2.1;have:=h.2.2.1 (by omega)
      have:=h.2.2.2.1 (by omega)
      have:=h.2.2.2.2.1 (by omega)
      omega
    ·have hw:wideC c0=0:=by unfold wideC;rw [if_neg h0,if_neg h1,if_neg h2,if_neg h3,if_neg h4]
     rw [hw];refine ⟨fun h => absurd rfl h.1,fun _ => ?_⟩
     by_cases g2:c0 / 32=6∧1 < n∧c1 / 64=2
     ·rw [if_pos g2,if_neg (by omega)]
      exact ⟨rfl,rfl⟩
     ·rw [if_neg g2,if_neg (by omega)]
      by_cases g4:c0 / 8=30∧(1 < n∧c1 / 64=2)∧(2 < n∧c2 / 64=2)∧(3 < n∧c3 / 64=2)
      ·rw [if_pos g4,if_neg (by omega)]
       exact ⟨rfl,rfl⟩
      ·rw [if_neg g4]
       exact ⟨rfl,rfl⟩
theorem textGo_valid (n:Nat):∀ l:List UInt8,l.length≤n → textGo n l=(validGoD n l && !(l.contains 0)):=by
 induction n with
 | zero =>
   intro l h;have:l=[]:=List.length_eq_zero_iff.1 (by omega)
   subst this;rfl
 | succ n ih =>
   intro l h;unfold textGo validGoD
   by_cases hl:l=[]
   ·subst hl;rfl
   ·rw [if_neg hl,if_neg hl]
    by_cases h0:at_ l 0=0
    ·have hc:l.contains 0=true:=by
      cases l with
      | nil => exact absurd rfl hl
      | cons b t =>
        have:b=0:=UInt8.toNat_inj.1 (by simpa [at_] using h0)
        subst this;simp
     rw [hc,if_neg (fun hh => hh.1 (by rw [h0];rfl))]
     simp
    ·obtain ⟨k1,k2⟩:=head_decode l hl h0
     by_cases hh:headOk l
     ·rw [if_pos hh,if_neg (k1 hh).1,(k1 hh).2]
      have hw:0 < wideC (at_ l 0):=Nat.pos_of_ne_zero hh.1;have hl':0 < l.length:=List.length_pos_iff.2 hl;rw [ih _ (by rw [List.length_drop];omega)]
      congr 2
      rw [Bool.eq_iff_iff];simp only [List.contains_iff_mem];constructor
      ·exact fun h => List.mem_of_mem_drop h
      ·intro h
       rw [← List.take_append_drop (wideC (at_ l 0)) l,List.mem_append] at h;rcases h with h | h
       ·obtain ⟨i,hi,he⟩:=List.mem_iff_getElem.1 h
        rw [List.length_take] at hi;rw [List.getElem_take] at he;have hz:at_ l i=0:=by unfold at_;rw [List.getD,List.getElem?_eq_getElem (by omega),he];rfl
        by_cases hi0:i=0
        ·subst hi0;exact absurd hz h0
        ·have:=hh.2.2.1 i (by omega) (by omega)
         unfold isCont at this;omega
       ·exact h
     ·rw [if_neg hh,if_pos (k2 hh)]
      simp
theorem text_valid (l:List UInt8):textD l=(validD l && !(l.contains 0)):=textGo_valid _ l (Nat.le_refl _)
theorem at_left (x z:List UInt8) (k:Nat) (h:k < x.length):at_ (x++z) k=at_ x k:=by
 unfold at_;simp [List.getD,List.getElem?_append_left h]
theorem head_app (x z:List UInt8) (hx:x≠[]):headOk x → headOk (x++z):=by
 have hl:0 < x.length:=List.length_pos_iff.2 hx;rintro ⟨h1,h2,h3,h4⟩;have e0:=at_left x z 0 hl;refine ⟨by rw [e0];exact h1,by rw [e0,List.length_append];omega,fun k hk hk0 => ?_,?_⟩
 ·rw [e0] at hk
  rw [at_left x z k (by omega)]
  exact h3 k hk hk0
 ·rw [e0]
  by_cases hw:1 < x.length
  ·rwa [at_left x z 1 hw]
  ·unfold isBad
   omega
theorem head_cut (x y:List UInt8) (hx:x≠[]):headOk (x++47 :: y) → headOk x:=by
 have hl:0 < x.length:=List.length_pos_iff.2 hx;rintro ⟨h1,h2,h3,h4⟩;have e0:=at_left x (47 :: y) 0 hl;rw [e0] at h1 h2 h3 h4
 have hs:at_ (x++47 :: y) x.length=47:=by
  unfold at_;simp [List.getD]
 have hw:wideC (at_ x 0)≤x.length:=by
  rcases Nat.lt_or_ge x.length (wideC (at_ x 0)) with h | h
  ·have:=h3 x.length h hl
   rw [hs] at this;unfold isCont at this;omega
  ·exact h
 refine ⟨h1,hw,fun k hk hk0 => ?_,?_⟩
 ·have:=h3 k hk hk0
  rwa [at_left x _ k (by omega)] at this
 ·by_cases hw:1 < x.length
  ·rwa [at_left x _ 1 hw] at h4
  ·unfold isBad
   omega
theorem head_slash (y:List UInt8):headOk (47 :: y)∧wideC (at_ (47 :: y) 0)=1:=by
 have e:at_ (47 :: y) 0=47:=rfl;have hw:wideC 47=1:=by decide
 refine ⟨⟨by rw [e,hw];omega,by rw [e,hw];simp,fun k hk hk0 => ?_,?_⟩,by rw [e,hw]⟩
 ·rw [e,hw] at hk;omega
 ·rw [e,hw];unfold isBad;omega
theorem text_slash (n:Nat):∀ x y:List UInt8,x.length≤n → textD (x++47 :: y)=(textD x && textD y):=by
 induction n with
 | zero =>
   intro x y h;have:x=[]:=List.length_eq_zero_iff.1 (by omega)
   subst this;obtain ⟨h1,h2⟩:=head_slash y;rw [List.nil_append,textD_step _ (by simp),if_pos h1,h2]
   rfl
 | succ n ih =>
   intro x y h
   by_cases hx:x=[]
   ·subst hx
    exact ih [] y (by simp)
   ·have hl:0 < x.length:=List.length_pos_iff.2 hx
    rw [textD_step (x++47 :: y) (by simp),textD_step x hx]
    by_cases hh:headOk x
    ·rw [if_pos hh,if_pos (head_app x _ hx hh),at_left x _ 0 hl,List.drop_append_of_le_length hh.2.1]
     have:0 < wideC (at_ x 0):=Nat.pos_of_ne_zero hh.1;exact ih _ y (by rw [List.length_drop];omega)
    ·rw [if_neg hh,if_neg (fun h => hh (head_cut x y hx h))]
     rfl
theorem text_join (x y:List UInt8):textD (x++47 :: y)=(textD x && textD y):=text_slash _ x y (Nat.le_refl _)
def partsL:List UInt8 → List (List UInt8)
 | [] => [[]]
 | b :: l => if b=47 then [] :: partsL l else (b :: (partsL l).headD []) :: (partsL l).tail
theorem parts_ne (l:List UInt8):partsL l≠[]:=by
 cases l with
 | nil => simp [partsL]
 | cons b l => unfold partsL;split<;>simp
theorem parts_plain (x:List UInt8) (h:(47:UInt8) ∉ x):partsL x=[x]:=by
 induction x with
 | nil => rfl
 | cons b x ih =>
   have hb:b≠47:=fun e => h (by simp [e])
   rw [partsL,if_neg hb,ih (fun h' => h (List.mem_cons_of_mem _ h'))]
   rfl
theorem parts_app (x y:List UInt8):partsL (x++47 :: y)=partsL x++partsL y:=by
 induction x with
 | nil => simp [partsL]
 | cons b x ih =>
   by_cases hb:b=47
   ·subst hb
    simp [partsL,ih]
   ·rw [List.cons_append,partsL,if_neg hb,partsL,if_neg hb,ih]
    cases hp:partsL x with
    | nil => exact absurd hp (parts_ne x)
    | cons p ps => simp
theorem parts_noslash (l:List UInt8):∀ p ∈ partsL l,(47:UInt8) ∉ p:=by
 induction l with
 | nil => simp [partsL]
 | cons b l ih =>
   unfold partsL
   by_cases hb:b=47
   ·rw [if_pos hb]
    intro p hp;rcases List.mem_cons.1 hp with rfl | hp
    ·simp
    ·exact ih p hp
   ·rw [if_neg hb]
    cases hq:partsL l with
    | nil => exact absurd hq (parts_ne l)
    | cons q qs =>
      rw [hq] at ih;intro p hp;rcases List.mem_cons.1 hp with rfl | hp
      ·simp only [List.headD_cons]
       intro h;rcases List.mem_cons.1 h with h | h
       ·exact hb h.symm
       ·exact ih q (by simp) h
      ·exact ih p (List.mem_cons_of_mem _ hp)
theorem parts_cut (l:List UInt8):(0≤indexByte l 47 → partsL l=l.take (indexByte l 47).toNat :: partsL (l.drop ((indexByte l 47).toNat+1)))∧(¬ 0≤indexByte l 47 → partsL l=[l]):=by
 induction l with
 | nil => exact ⟨fun h => by simp [indexByte] at h,fun _ => rfl⟩
 | cons b l ih =>
   have hge:=indexByte_ge l 47
   by_cases hb:b=47
   ·subst hb
    have e:indexByte ((47:UInt8) :: l) 47=0:=by simp [indexByte]
    rw [e];exact ⟨fun _ => by simp [partsL],fun h => absurd (by omega) h⟩
   ·have hbb:(b == 47)=false:=by simpa using hb
    by_cases hi:indexByte l 47 = -1
    ·have e:indexByte (b :: l) 47 = -1:=by simp [indexByte,hbb,hi]
     rw [e];refine ⟨fun h => absurd h (by omega),fun _ => ?_⟩
     rw [partsL,if_neg hb,ih.2 (by omega)]
     rfl
    ·have hi':(indexByte l 47 == -1)=false:=by simpa using hi
     have e:indexByte (b :: l) 47=indexByte l 47+1:=by simp [indexByte,hbb,hi']
     rw [e,show (indexByte l 47+1).toNat=(indexByte l 47).toNat+1 by omega]
     refine ⟨fun _ => ?_,fun h => absurd (by omega) h⟩
     rw [partsL,if_neg hb,ih.1 (by omega)]
     rfl
theorem parts_text (n:Nat):∀ l:List UInt8,l.length≤n → textD l=true → ∀ p ∈ partsL l,textD p=true:=by
 induction n with
 | zero =>
   intro l h _ p hp;have:l=[]:=List.length_eq_zero_iff.1 (by omega)
   subst this;simp [partsL] at hp;subst hp;rfl
 | succ n ih =>
   intro l h ht p hp;obtain ⟨h1,h2⟩:=parts_cut l
   by_cases hi:0≤indexByte l 47
   ·rw [h1 hi] at hp
    obtain ⟨k,hk⟩:∃ k:Nat,indexByte l 47=k:=⟨(indexByte l 47).toNat,by omega⟩
    obtain ⟨hlt,hge⟩:=List.getElem?_eq_some_iff.1 (indexByte_some hk).1;rw [hk] at hp
    have hs:l=l.take k++47 :: l.drop (k+1):=by
     rw [← hge,List.getElem_cons_drop,List.take_append_drop]
    rw [hs,text_join,Bool.and_eq_true] at ht;rcases List.mem_cons.1 hp with rfl | hp
    ·exact ht.1
    ·exact ih _ (by rw [List.length_drop];omega) ht.2 p hp
   ·rw [h2 hi] at hp
    rcases List.mem_cons.1 hp with rfl | hp
    ·exact ht
    ·cases hp
def joinP (c p:List UInt8):List UInt8:=if p=[] ∨ p=[46] then c else if c=[] then p else c++47 :: p
def goC:List UInt8 → List (List UInt8) → Option (List UInt8)
 | c,[] => some c
 | c,p :: ps => if p=[46,46] then none else goC (joinP c p) ps
def goP:List UInt8 → List (List UInt8) → Option (List UInt8)
 | c,[] => some c
 | c,p :: ps => if p=[46,46] ∨ 200 < (joinP c p).length then none else goP (joinP c p) ps
theorem joinP_le (c p:List UInt8):c.length≤(joinP c p).length:=by
 unfold joinP
 split
 ·exact Nat.le_refl _
 ·split
  ·next h => simp [h]
  ·simp
theorem goC_le (ps:List (List UInt8)):∀ c a,goC c ps=some a → c.length≤a.length:=by
 induction ps with
 | nil => intro c a h;cases h;exact Nat.le_refl _
 | cons p ps ih =>
   intro c a h;unfold goC at h
   split at h
   ·cases h
   ·exact Nat.le_trans (joinP_le c p) (ih _ _ h)
theorem goP_eq (ps:List (List UInt8)):∀ c,c.length≤200 → goP c ps=(goC c ps).bind fun a => if a.length≤200 then some a else none:=by
 induction ps with
 | nil => intro c h;simp [goP,goC,h]
 | cons p ps ih =>
   intro c h;unfold goP goC
   by_cases h1:p=[46,46]
   ·rw [if_pos (.inl h1),if_pos h1];rfl
   ·by_cases h2:200 < (joinP c p).length
    ·rw [if_pos (.inr h2),if_neg h1]
     cases hg:goC (joinP c p) ps with
     | none => rfl
     | some a =>
       have:=goC_le ps _ _ hg;rw [Option.bind_some,if_neg (by omega)]
    ·rw [if_neg (fun h => h.elim h1 h2),if_neg h1]
     exact ih _ (by omega)
def cleanD (T P:Int) (l:List UInt8):List UInt8 × Int:=
 if textD l=false then ([],T) else if l.headD 47=47 then ([],P) else
  match goC [] (partsL l) with
  | none => ([],P)
  | some a => if a=[] ∨ 200 < a.length then ([],P) else (a,0)
def keptL (ps:List (List UInt8)):List (List UInt8):=ps.filter fun p => !(p == [] || p == [46])
def withSlash:List (List UInt8) → List UInt8
 | [] => []
 | [p] => p
 | p :: q :: ps => p++47 :: withSlash (q :: ps)
theorem slash_snoc (qs:List (List UInt8)) (p:List UInt8):qs≠[] → withSlash (qs++[p])=withSlash qs++47 :: p:=by
 induction qs with
 | nil => intro h;exact absurd rfl h
 | cons q qs ih =>
   intro _
   cases qs with
   | nil => rfl
   | cons r qs =>
     have:=ih (by simp)
     simp only [List.cons_append] at this ⊢;rw [withSlash,this,withSlash];simp
theorem slash_nil (qs:List (List UInt8)) (h:∀ q ∈ qs,q≠[]):withSlash qs=[] ↔ qs=[]:=by
 constructor
 ·intro e
  cases qs with
  | nil => rfl
  | cons q qs =>
    cases qs with
    | nil => exact absurd e (h q (by simp))
    | cons r qs => simp [withSlash] at e
 ·rintro rfl;rfl
theorem kept_ne (ps:List (List UInt8)):∀ q ∈ keptL ps,q≠[]∧q≠[46]∧q ∈ ps:=by
 intro q hq;obtain ⟨h1,h2⟩:=List.mem_filter.1 hq;simp at h2;exact ⟨h2.1,h2.2,h1⟩
theorem goC_eq (ps:List (List UInt8)):∀ qs:List (List UInt8),(∀ q ∈ qs,q≠[]) →
 goC (withSlash qs) ps=if [46,46] ∈ ps then none else some (withSlash (qs++keptL ps)):=by
 induction ps with
 | nil => intro qs _;simp [goC,keptL]
 | cons p ps ih =>
   intro qs hqs;unfold goC
   by_cases h1:p=[46,46]
   ·rw [if_pos h1,if_pos (by simp [h1])]
   ·rw [if_neg h1]
    have hm:([46,46] ∈ p :: ps) ↔ [46,46] ∈ ps:=by
     rw [List.mem_cons];exact ⟨fun h => h.elim (fun e => absurd e.symm h1) id,.inr⟩
    by_cases h2:p=[] ∨ p=[46]
    ·have e:joinP (withSlash qs) p=withSlash qs:=by unfold joinP;rw [if_pos h2]
     have k:keptL (p :: ps)=keptL ps:=by
      unfold keptL;rw [List.filter_cons,if_neg (by simpa using fun h => h2.resolve_left h)]
     rw [e,ih qs hqs,k];simp only [hm]
    ·have k:keptL (p :: ps)=p :: keptL ps:=by
      unfold keptL;rw [List.filter_cons,if_pos (by simpa using h2)]
     have e:joinP (withSlash qs) p=withSlash (qs++[p]):=by
      unfold joinP;rw [if_neg h2]
      by_cases hq:qs=[]
      ·subst hq;rfl
      ·rw [if_neg (fun h => hq ((slash_nil qs hqs).1 h)),slash_snoc qs p hq]
     rw [e,ih (qs++[p]) (by
      intro q hq;rcases List.mem_append.1 hq with h | h
      ·exact hqs q h
      ·simp at h;subst h;exact fun e => h2 (.inl e)),k]
     simp only [hm,List.append_assoc,List.singleton_append]
theorem goC_parts (l:List UInt8):goC [] (partsL l)=if [46,46] ∈ partsL l then none else some (withSlash (keptL (partsL l))):=by
 have:=goC_eq (partsL l) [] (by simp)
 rwa [List.nil_append] at this
theorem clean_ok (T P:Int) (hT:T≠0) (hP:P≠0) (l a:List UInt8):cleanD T P l=(a,0) ↔
 (textD l=true∧l.headD 47≠47∧[46,46] ∉ partsL l∧a=withSlash (keptL (partsL l))∧keptL (partsL l)≠[]∧a.length≤200):=by
 unfold cleanD;rw [goC_parts];have hk:∀ q ∈ keptL (partsL l),q≠[]:=fun q hq => (kept_ne _ q hq).1
 cases ht:textD l with
 | false => simp [hT]
 | true =>
   rw [if_neg (by simp)]
   by_cases h0:l.headD 47=47
   ·rw [if_pos h0]
    exact ⟨fun h => absurd (Prod.mk.injEq .. ▸ h).2 hP,fun h => absurd h0 h.2.1⟩
   ·rw [if_neg h0]
    by_cases hm:[46,46] ∈ partsL l
    ·rw [if_pos hm]
     simp [hP,hm]
    ·rw [if_neg hm]
     simp only
     by_cases hn:keptL (partsL l)=[]
     ·rw [if_pos (.inl (by rw [hn];rfl))]
      simp [hP,hn]
     ·have hne:withSlash (keptL (partsL l))≠[]:=fun e => hn ((slash_nil _ hk).1 e)
      by_cases h2:200 < (withSlash (keptL (partsL l))).length
      ·rw [if_pos (.inr h2)]
       constructor
       ·intro h;simp [hP] at h
       ·rintro ⟨_,_,_,rfl,_,h⟩;omega
      ·rw [if_neg (fun h => h.elim hne h2)]
       constructor
       ·intro h
        obtain ⟨rfl,_⟩:=Prod.mk.injEq .. ▸ h;exact ⟨trivial,h0,hm,rfl,hn,by omega⟩
       ·rintro ⟨_,_,_,rfl,_,_⟩;rfl
theorem parts_with (qs:List (List UInt8)) (hq:qs≠[]) (h:∀ q ∈ qs,(47:UInt8) ∉ q):partsL (withSlash qs)=qs:=by
 induction qs with
 | nil => exact absurd rfl hq
 | cons q qs ih =>
   cases qs with
   | nil => exact parts_plain q (h q (by simp))
   | cons r qs =>
     rw [withSlash,parts_app,parts_plain q (h q (by simp)),ih (by simp) (fun p hp => h p (List.mem_cons_of_mem _ hp))]
     rfl
theorem text_with (qs:List (List UInt8)) (h:∀ q ∈ qs,textD q=true):textD (withSlash qs)=true:=by
 induction qs with
 | nil => rfl
 | cons q qs ih =>
   cases qs with
   | nil => exact h q (by simp)
   | cons r qs =>
     rw [withSlash,text_join,h q (by simp),ih (fun p hp => h p (List.mem_cons_of_mem _ hp))]
     rfl
theorem head_with (qs:List (List UInt8)) (hq:qs≠[]) (h:∀ q ∈ qs,q≠[]∧(47:UInt8) ∉ q):(withSlash qs).headD 47≠47:=by
 have first:∀ q:List UInt8,q≠[] → (47:UInt8) ∉ q → ∀ z:List UInt8,(q++z).headD 47≠47:=by
  intro q hq hn z
  cases q with
  | nil => exact absurd rfl hq
  | cons b q => exact fun e => hn (by simp at e;simp [e])
 cases qs with
 | nil => exact absurd rfl hq
 | cons q qs =>
   obtain ⟨h1,h2⟩:=h q (by simp)
   cases qs with
   | nil =>
     have:=first q h1 h2 []
     rwa [List.append_nil] at this
   | cons r qs => exact first q h1 h2 _
theorem clean_parts (T P:Int) (hT:T≠0) (hP:P≠0) (l a:List UInt8) (h:cleanD T P l=(a,0)) :
 ∃ qs:List (List UInt8),qs≠[]∧(∀ q ∈ qs,q≠[]∧q≠[46]∧q≠[46,46]∧(47:UInt8) ∉ q∧textD q=true)∧a=withSlash qs∧keptL (partsL l)=qs∧a.length≤200∧textD l=true∧l.headD 47≠47∧[46,46] ∉ partsL l:=by
 obtain ⟨h1,h2,h3,h4,h5,h6⟩:=(clean_ok T P hT hP l a).1 h;refine ⟨_,h5,fun q hq => ?_,h4,rfl,h6,h1,h2,h3⟩
 obtain ⟨k1,k2,k3⟩:=kept_ne _ q hq;exact ⟨k1,k2,fun e => h3 (e ▸ k3),parts_noslash l q k3,parts_text _ l (Nat.le_refl _) h1 q k3⟩
theorem kept_id (qs:List (List UInt8)) (h:∀ q ∈ qs,q≠[]∧q≠[46]):keptL qs=qs:=
 List.filter_eq_self.2 fun q hq => by simpa using h q hq
theorem clean_like (T P:Int) (hT:T≠0) (hP:P≠0) (qs:List (List UInt8)) (x:List UInt8) (hq:qs≠[]) (h:∀ q ∈ qs,q≠[]∧q≠[46]∧q≠[46,46]∧(47:UInt8) ∉ q∧textD q=true)
 (hl:(withSlash qs).length≤200) (ht:textD x=true) (h0:x.headD 47≠47) (hp:∃ A B,partsL x=A++qs++B∧(∀ p ∈ A,p=[] ∨ p=[46])∧(∀ p ∈ B,p=[] ∨ p=[46])):cleanD T P x=(withSlash qs,0):=by
 obtain ⟨A,B,hp,hA,hB⟩:=hp;have none_:∀ C:List (List UInt8),(∀ p ∈ C,p=[] ∨ p=[46]) → keptL C=[]:=fun C hC => List.filter_eq_nil_iff.2 fun p hp => by simpa using fun e => (hC p hp).resolve_left e
 have hk:keptL (partsL x)=qs:=by
  have e:keptL (partsL x)=keptL A++keptL qs++keptL B:=by rw [hp];unfold keptL;rw [List.filter_append,List.filter_append]
  rw [e,none_ A hA,none_ B hB,kept_id qs fun q hq => ⟨(h q hq).1,(h q hq).2.1⟩]
  simp
 refine (clean_ok T P hT hP x _).2 ⟨ht,h0,?_,by rw [hk],by rw [hk];exact hq,hl⟩
 rw [hp];intro hm;rcases List.mem_append.1 hm with hm | hm
 ·rcases List.mem_append.1 hm with hm | hm
  ·rcases hA _ hm with e | e<;>cases e
  ·exact (h _ hm).2.2.1 rfl
 ·rcases hB _ hm with e | e<;>cases e
theorem clean_self (T P:Int) (hT:T≠0) (hP:P≠0) (l a:List UInt8) (h:cleanD T P l=(a,0)):cleanD T P a=(a,0)∧a≠[]∧a.headD 47≠47∧a.length≤200:=by
 obtain ⟨qs,hq,hqs,rfl,_,hl,_⟩:=clean_parts T P hT hP l a h;have hh:=head_with qs hq fun q h => ⟨(hqs q h).1,(hqs q h).2.2.2.1⟩
 refine ⟨clean_like T P hT hP qs _ hq hqs hl (text_with qs fun q h => (hqs q h).2.2.2.2) hh ⟨[],[],by rw [parts_with qs hq fun q h => (hqs q h).2.2.2.1];simp,by simp,by simp⟩,fun e => hq ((slash_nil qs fun q h => (hqs q h).1).1 e),hh,hl⟩
theorem clean_goP (T P:Int) (l:List UInt8):cleanD T P l=if textD l=false then ([],T) else if l.head? = some 47 then ([],P) else
 match goP [] (partsL l) with
 | none => ([],P)
 | some a => if a=[] then ([],P) else (a,0):=by
 unfold cleanD
 split
 ·rfl
 ·by_cases hl:l=[]
  ·subst hl
   simp [partsL,goP,joinP]
  ·have hh:l.headD 47=47 ↔ l.head? = some 47:=by
    cases l with
    | nil => exact absurd rfl hl
    | cons b t => simp
   simp only [hh]
   split
   ·rfl
   ·rw [goP_eq _ [] (by simp)]
    cases hg:goC [] (partsL l) with
    | none => rfl
    | some a =>
      rw [Option.bind_some]
      by_cases h2:a.length≤200
      ·rw [if_pos h2]
       by_cases ha:a=[]
       ·simp [ha]
       ·simp [ha];omega
      ·rw [if_neg h2]
       show (if a=[] ∨ 200 < a.length then _ else _)=_
       rw [if_pos (.inr (by omega))]
def targetD (T P:Int) (l:List UInt8):Int:=if textD l=false then T else if l=[] ∨ 200 < l.length then P else 0
end Go.Proofs.YtfhelebejclalaaDoor.Path
end
