/- Texts of this seat, merged: what the proof reaches. -/
import Derived.Test.YtnpkcneojilmkaaGreatDoorMemberGNUX2
import Derived.Test.YtnpkcneojilmkaaGreatDoorMemberGNUX11
import Derived.Laws.CopyOwn
section
namespace Go.Proofs.YtnpkcneojilmkaaGreatDoor.Hp
open Go.Lib Fp
set_option linter.unusedVariables false
def atF:Nat → Nat
 | 0 => 0 | 1 => 100 | 2 => 108 | 3 => 116 | 4 => 124 | 5 => 136 | 6 => 148 | 7 => 156 | 8 => 157 | 9 => 257 | 10 => 345 | _ => 512
def wideF:Nat → Nat
 | 0 => 100 | 1 => 8 | 2 => 8 | 3 => 8 | 4 => 12 | 5 => 12 | 6 => 8 | 7 => 1 | 8 => 100 | 9 => 8 | 10 => 155 | _ => 0
def fld (x:Nat):Nat:=
 if x < 100 then 0 else if x < 108 then 1 else if x < 116 then 2 else if x < 124 then 3 else if x < 136 then 4 else if x < 148 then 5 else if x < 156 then 6 else if x < 157 then 7 else if x < 257 then 8 else if x < 265 then 9 else if x < 345 then 11 else if x < 500 then 10 else 11
theorem cases11 {i:Nat} (hi:i < 11):i=0 ∨ i=1 ∨ i=2 ∨ i=3 ∨ i=4 ∨ i=5 ∨ i=6 ∨ i=7 ∨ i=8 ∨ i=9 ∨ i=10:=by omega
theorem fld_at (x:Nat):∃ v lo hi,fld x=v∧lo≤x∧x < hi∧((v=11∧lo=500) ∨ (v=11∧lo=265∧hi=345) ∨ (v < 11∧atF v=lo∧atF v+wideF v=hi)):=by
 by_cases h0:x < 100
 ·refine ⟨0,0,100,?_,by omega,h0,?_⟩
  ·unfold fld
   rw [if_pos h0]
  ·exact Or.inr (Or.inr ⟨by decide,rfl,rfl⟩)
 by_cases h1:x < 108
 ·refine ⟨1,100,108,?_,by omega,h1,?_⟩
  ·unfold fld
   rw [if_neg h0,if_pos h1]
  ·exact Or.inr (Or.inr ⟨by decide,rfl,rfl⟩)
 by_cases h2:x < 116
 ·refine ⟨2,108,116,?_,by omega,h2,?_⟩
  ·unfold fld
   rw [if_neg h0,if_neg h1,if_pos h2]
  ·exact Or.inr (Or.inr ⟨by decide,rfl,rfl⟩)
 by_cases h3:x < 124
 ·refine ⟨3,116,124,?_,by omega,h3,?_⟩
  ·unfold fld
   rw [if_neg h0,if_neg h1,if_neg h2,if_pos h3]
  ·exact Or.inr (Or.inr ⟨by decide,rfl,rfl⟩)
 by_cases h4:x < 136
 ·refine ⟨4,124,136,?_,by omega,h4,?_⟩
  ·unfold fld
   rw [if_neg h0,if_neg h1,if_neg h2,if_neg h3,if_pos h4]
  ·exact Or.inr (Or.inr ⟨by decide,rfl,rfl⟩)
 by_cases h5:x < 148
 ·refine ⟨5,136,148,?_,by omega,h5,?_⟩
  ·unfold fld
   rw [if_neg h0,if_neg h1,if_neg h2,if_neg h3,if_neg h4,if_pos h5]
  ·exact Or.inr (Or.inr ⟨by decide,rfl,rfl⟩)
 by_cases h6:x < 156
 ·refine ⟨6,148,156,?_,by omega,h6,?_⟩
  ·unfold fld
   rw [if_neg h0,if_neg h1,if_neg h2,if_neg h3,if_neg h4,if_neg h5,if_pos h6]
  ·exact Or.inr (Or.inr ⟨by decide,rfl,rfl⟩)
 by_cases h7:x < 157
 ·refine ⟨7,156,157,?_,by omega,h7,?_⟩
  ·unfold fld
   rw [if_neg h0,if_neg h1,if_neg h2,if_neg h3,if_neg h4,if_neg h5,if_neg h6,if_pos h7]
  ·exact Or.inr (Or.inr ⟨by decide,rfl,rfl⟩)
 by_cases h8:x < 257
 ·refine ⟨8,157,257,?_,by omega,h8,?_⟩
  ·unfold fld
   rw [if_neg h0,if_neg h1,if_neg h2,if_neg h3,if_neg h4,if_neg h5,if_neg h6,if_neg h7,if_pos h8]
  ·exact Or.inr (Or.inr ⟨by decide,rfl,rfl⟩)
 by_cases h9:x < 265
 ·refine ⟨9,257,265,?_,by omega,h9,?_⟩
  ·unfold fld
   rw [if_neg h0,if_neg h1,if_neg h2,if_neg h3,if_neg h4,if_neg h5,if_neg h6,if_neg h7,if_neg h8,if_pos h9]
  ·exact Or.inr (Or.inr ⟨by decide,rfl,rfl⟩)
 by_cases h10:x < 345
 ·refine ⟨11,265,345,?_,by omega,h10,?_⟩
  ·unfold fld
   rw [if_neg h0,if_neg h1,if_neg h2,if_neg h3,if_neg h4,if_neg h5,if_neg h6,if_neg h7,if_neg h8,if_neg h9,if_pos h10]
  ·exact Or.inr (Or.inl ⟨rfl,rfl,rfl⟩)
 by_cases h11:x < 500
 ·refine ⟨10,345,500,?_,by omega,h11,?_⟩
  ·unfold fld
   rw [if_neg h0,if_neg h1,if_neg h2,if_neg h3,if_neg h4,if_neg h5,if_neg h6,if_neg h7,if_neg h8,if_neg h9,if_neg h10,if_pos h11]
  ·exact Or.inr (Or.inr ⟨by decide,rfl,rfl⟩)
 refine ⟨11,500,x+1,?_,by omega,by omega,Or.inl ⟨rfl,rfl⟩⟩
 unfold fld;rw [if_neg h0,if_neg h1,if_neg h2,if_neg h3,if_neg h4,if_neg h5,if_neg h6,if_neg h7,if_neg h8,if_neg h9,if_neg h10,if_neg h11]
theorem at_apart {i j:Nat} (hi:i < 11) (hj:j < 11) (hne:i≠j):atF i+wideF i≤atF j ∨ atF j+wideF j≤atF i:=by
 have h:∀ i,i < 11 → ∀ j,j < 11 → i≠j → atF i+wideF i≤atF j ∨ atF j+wideF j≤atF i:=by decide
 exact h i hi j hj hne
theorem at_free {i:Nat} (hi:i < 11):atF i+wideF i≤265 ∨ 345≤atF i∧atF i+wideF i≤500:=by
 have h:∀ i,i < 11 → (atF i+wideF i≤265 ∨ 345≤atF i∧atF i+wideF i≤500):=by decide
 exact h i hi
theorem fld_iff {i x:Nat} (hi:i < 11):fld x=i ↔ atF i≤x∧x < atF i+wideF i:=by
 obtain ⟨v,lo,hi',e,h1,h2,h3⟩:=fld_at x;have hf:=at_free hi;rw [e];rcases h3 with ⟨rfl,rfl⟩ | ⟨rfl,rfl,rfl⟩ | ⟨h3,rfl,rfl⟩
 ·omega
 ·omega
 ·constructor
  ·rintro rfl;exact ⟨h1,h2⟩
  ·intro h
   rcases Nat.decEq v i with hne | rfl
   ·have:=at_apart h3 hi hne
    omega
   ·rfl
theorem field_in {i:Nat} (hi:i < 11):atF i+wideF i≤512:=by
 rcases cases11 hi with rfl | rfl | rfl | rfl | rfl | rfl | rfl | rfl | rfl | rfl | rfl<;>simp [atF,wideF]
theorem wide_pos {i:Nat} (hi:i < 11):1≤wideF i∧wideF i≤155:=by
 rcases cases11 hi with rfl | rfl | rfl | rfl | rfl | rfl | rfl | rfl | rfl | rfl | rfl<;>simp [wideF]
theorem wide_none {i:Nat} (hi:¬ i < 11):wideF i=0:=by
 match i,hi with
 | 0,hi | 1,hi | 2,hi | 3,hi | 4,hi | 5,hi | 6,hi | 7,hi | 8,hi | 9,hi | 10,hi => exact absurd (by decide) hi
 | i+11,_ => rfl
theorem getD_ext {l m:List UInt8} (h:l.length=m.length) (hx:∀ x,x < l.length → l.getD x 0=m.getD x 0):l=m:=by
 apply List.ext_getElem h;intro x h1 h2;have:=hx x h1;rw [List.getD,List.getD,List.getElem?_eq_getElem h1,List.getElem?_eq_getElem h2] at this
 simpa using this
def Fits (own:Nat → List UInt8):Prop:=∀ i,(own i).length=wideF i
def blockA (own:Nat → List UInt8):List UInt8:=(List.range 512).map fun x => (own (fld x)).getD (x - atF (fld x)) 0
theorem blockA_length (own:Nat → List UInt8):(blockA own).length=512:=by simp [blockA]
theorem blockA_get (own:Nat → List UInt8) {x:Nat} (h:x < 512):(blockA own).getD x 0=(own (fld x)).getD (x - atF (fld x)) 0:=by
 simp [blockA,List.getD,h]
def fieldB (bs:List UInt8) (i:Nat):List UInt8:=(bs.drop (atF i)).take (wideF i)
theorem fieldB_length {bs:List UInt8} (hl:bs.length=512) {i:Nat} (hi:i < 11):(fieldB bs i).length=wideF i:=by
 have:=field_in hi;simp only [fieldB,List.length_take,List.length_drop];omega
theorem fieldB_get (bs:List UInt8) (i j:Nat) (hj:j < wideF i):(fieldB bs i).getD j 0=bs.getD (atF i+j) 0:=by
 simp [fieldB,List.getD,hj]
theorem field_blockA {own:Nat → List UInt8} (hf:Fits own) {i:Nat} (hi:i < 11):fieldB (blockA own) i=own i:=by
 have hl:=fieldB_length (blockA_length own) hi;refine getD_ext (by rw [hl,hf i]) fun x hx => ?_
 rw [hl] at hx;have h1:=field_in hi;rw [fieldB_get _ _ _ hx,blockA_get own (by omega),(fld_iff hi).2 ⟨by omega,by omega⟩]
 congr 1
 omega
def upd (own:Nat → List UInt8) (i:Nat) (l:List UInt8):Nat → List UInt8:=fun k => if k=i then l else own k
theorem upd_same (own:Nat → List UInt8) (i:Nat) (l:List UInt8):upd own i l i=l:=if_pos rfl
theorem upd_other (own:Nat → List UInt8) {i k:Nat} (l:List UInt8) (h:k≠i):upd own i l k=own k:=if_neg h
theorem Fits.upd {own:Nat → List UInt8} (h:Fits own) {i:Nat} {l:List UInt8} (hl:l.length=wideF i):Fits (upd own i l):=fun k => by
 by_cases hk:k=i
 ·subst hk;rw [upd_same];exact hl
 ·rw [upd_other _ _ hk];exact h k
def putInto (old cs:List UInt8):List UInt8:=cs++old.drop cs.length
theorem putInto_length {old cs:List UInt8} (h:cs.length≤old.length):(putInto old cs).length=old.length:=by
 simp only [putInto,List.length_append,List.length_drop];omega
theorem splice_get (L cs:List UInt8) (off x:Nat) (h:off+cs.length≤L.length):(splice L off cs).getD x 0=if off≤x∧x < off+cs.length then cs.getD (x - off) 0 else L.getD x 0:=by
 unfold splice;have hm:min off L.length=off:=by omega
 simp only [List.getD,List.getElem?_append,List.length_take,hm]
 by_cases h1:x < off
 ·rw [if_pos h1,if_neg (by omega),List.getElem?_take,if_pos h1]
 ·rw [if_neg h1]
  by_cases h2:x - off < cs.length
  ·rw [if_pos h2,if_pos (by omega)]
  ·rw [if_neg h2,if_neg (by omega),List.getElem?_drop]
   congr 2
   omega
theorem splice_zero (L cs:List UInt8):splice L 0 cs=putInto L cs:=by simp [splice,putInto]
theorem putInto_get (old cs:List UInt8) (x:Nat) (h:cs.length≤old.length):(putInto old cs).getD x 0=if x < cs.length then cs.getD x 0 else old.getD x 0:=by
 rw [← splice_zero,splice_get _ _ _ _ (by omega)]
 simp
theorem splice_blockA {own:Nat → List UInt8} (hf:Fits own) {i:Nat} (hi:i < 11) {cs:List UInt8} (hl:cs.length≤wideF i):splice (blockA own) (atF i) cs=blockA (upd own i (putInto (own i) cs)):=by
 have h1:=field_in hi;have hL:(splice (blockA own) (atF i) cs).length=512:=by rw [length_splice _ _ _ (by rw [blockA_length];omega),blockA_length]
 refine getD_ext (by rw [hL,blockA_length]) fun x hx => ?_
 rw [hL] at hx;rw [splice_get _ _ _ _ (by rw [blockA_length];omega),blockA_get _ hx,blockA_get _ hx]
 by_cases hx1:atF i≤x∧x < atF i+wideF i
 ·rw [(fld_iff hi).2 hx1,upd_same,putInto_get _ _ _ (by rw [hf i];exact hl)]
  by_cases h2:x - atF i < cs.length
  ·rw [if_pos (by omega),if_pos h2]
  ·rw [if_neg (by omega),if_neg h2]
 ·rw [if_neg (by omega),upd_other _ _ (fun e => hx1 ((fld_iff hi).1 e))]
def zeroO:Nat → List UInt8:=fun i => List.replicate (wideF i) 0
theorem zeroO_fits:Fits zeroO:=fun i => List.length_replicate
theorem blockA_zero:blockA zeroO=List.replicate 512 0:=by
 refine getD_ext (by rw [blockA_length,List.length_replicate]) fun x hx => ?_
 rw [blockA_length] at hx;rw [blockA_get _ hx];simp only [zeroO,List.getD,List.getElem?_replicate,if_pos hx]
 split<;>rfl
def readO (bs:List UInt8):Nat → List UInt8:=fun i => if i < 11 then fieldB bs i else []
theorem readO_fits {bs:List UInt8} (hl:bs.length=512):Fits (readO bs):=fun i => by
 unfold readO
 split
 ·exact fieldB_length hl ‹_›
 ·rw [wide_none ‹_›];rfl
theorem fits_ext {a b:Nat → List UInt8} (ha:Fits a) (hb:Fits b) (h:∀ i,i < 11 → a i=b i):a=b:=by
 funext i
 by_cases hi:i < 11
 ·exact h i hi
 ·have h1:=ha i
  have h2:=hb i;rw [wide_none hi] at h1 h2;rw [List.eq_nil_of_length_eq_zero h1,List.eq_nil_of_length_eq_zero h2]
def plainTo (bs:List UInt8):Nat → Nat
 | 0 => 0
 | k+1 => plainTo bs k+(bs.getD k 0).toNat
def sumTo (bs:List UInt8):Nat → Nat
 | 0 => 0
 | k+1 => sumTo bs k+(if 148≤k∧k < 156 then 32 else (bs.getD k 0).toNat)
theorem plainTo_le (bs:List UInt8):∀ k,plainTo bs k≤255 * k
 | 0 => Nat.le_refl _
 | k+1 => by have:=plainTo_le bs k;have:=(bs.getD k 0).toNat_lt;rw [plainTo];omega
theorem sumTo_le (bs:List UInt8):∀ k,sumTo bs k≤255 * k
 | 0 => Nat.le_refl _
 | k+1 => by have:=sumTo_le bs k;have:=(bs.getD k 0).toNat_lt;rw [sumTo];split<;>omega
theorem plainTo_zero {bs:List UInt8}:∀ {k:Nat},plainTo bs k=0 ↔ ∀ x,x < k → bs.getD x 0=0
 | 0 => ⟨fun _ x hx => by omega,fun _ => rfl⟩
 | k+1 => by
   rw [plainTo,Nat.add_eq_zero_iff,plainTo_zero (k:=k)];constructor
   ·rintro ⟨h1,h2⟩ x hx
    by_cases hk:x=k
    ·subst hk;exact UInt8.toNat_inj.1 h2
    ·exact h1 x (by omega)
   ·intro h
    exact ⟨fun x hx => h x (by omega),by rw [h k (by omega)];rfl⟩
theorem sumTo_congr {a b:List UInt8}:∀ {k:Nat},(∀ x,x < k → ¬ (148≤x∧x < 156) → a.getD x 0=b.getD x 0) → sumTo a k=sumTo b k
 | 0,_ => rfl
 | k+1,h => by
   rw [sumTo,sumTo,sumTo_congr (k:=k) fun x hx hn => h x (by omega) hn]
   split
   ·rfl
   ·rw [h k (by omega) ‹_›]
theorem getD_set (bs:List UInt8) (k x:Nat) (v:UInt8) (hk:k < bs.length):(bs.set k v).getD x 0=if x=k then v else bs.getD x 0:=by
 simp only [List.getD,List.getElem?_set]
 by_cases h:k=x
 ·subst h;simp [hk]
 ·simp [h,Ne.symm h]
theorem sum_parts {bs:List UInt8}:sumTo bs 512+plainTo (fieldB bs 6) 8=plainTo bs 512+256:=by
 have a:∀ k,k≤148 → sumTo bs k=plainTo bs k:=by
  intro k
  induction k with
  | zero => intro _;rfl
  | succ k ih => intro hk;rw [sumTo,plainTo,ih (by omega),if_neg (by omega)]
 have b:∀ j,j≤8 → sumTo bs (148+j)+plainTo (fieldB bs 6) j=plainTo bs (148+j)+32 * j:=by
  intro j
  induction j with
  | zero => intro _;rw [Nat.add_zero,a 148 (by omega)];rfl
  | succ j ih =>
    intro hj;have:=ih (by omega)
    rw [show 148+(j+1)=(148+j)+1 by omega,sumTo,plainTo,plainTo,fieldB_get bs 6 j (by simp [wideF];omega),if_pos (by omega),show atF 6+j=148+j from rfl]
    omega
 have c:∀ j,sumTo bs (156+j)+plainTo (fieldB bs 6) 8=plainTo bs (156+j)+256:=by
  intro j
  induction j with
  | zero => exact b 8 (by omega)
  | succ j ih => rw [show 156+(j+1)=(156+j)+1 by omega,sumTo,plainTo.eq_2 bs (156+j),if_neg (by omega)];omega
 exact c 356
attribute [irreducible] sumTo plainTo blockA
def untilB (l:List UInt8):List UInt8:=l.takeWhile (· != 0)
theorem untilB_app {s:List UInt8} (h:∀ x ∈ s,x≠0) (n:Nat):untilB (s++List.replicate n 0)=s:=by
 unfold untilB
 induction s with
 | nil =>
   cases n with
   | zero => rfl
   | succ n => rw [List.nil_append,List.replicate_succ,List.takeWhile_cons,if_neg (by decide)]
 | cons c t ih =>
   rw [List.cons_append,List.takeWhile_cons,if_pos (by simpa using h c (List.mem_cons_self ..)),ih fun x hx => h x (List.mem_cons_of_mem _ hx)]
def ustarB:List UInt8:=[117,115,116,97,114,0,48,48]
def gnuB:List UInt8:=[117,115,116,97,114,32,32,0]
def nameF (p s:List UInt8) (gnu:Bool):List UInt8:=if gnu=true ∨ p=[] then s else p++47 :: s
def numsOkB (bs:List UInt8):Bool:=(List.range 5).all fun i => okI (parseF (fieldB bs (i+1)))
def valB (bs:List UInt8) (i:Nat):Int:=valI (parseF (fieldB bs i))
def kindB (bs:List UInt8):UInt8:=if (fieldB bs 7).getD 0 0=0 then 48 else (fieldB bs 7).getD 0 0
def gnuOf (bs:List UInt8):Bool:=fieldB bs 9 == gnuB
def theHead (bs:List UInt8):HeadV:=
 ⟨nameF (untilB (fieldB bs 10)) (untilB (fieldB bs 0)) (gnuOf bs),untilB (fieldB bs 8),kindB bs,valB bs 1,valB bs 2,valB bs 3,valB bs 5,valB bs 4,gnuOf bs⟩
def headR (bs:List UInt8):HeadV × Int:=
 if bs.length≠512 then (zeroH,1)
 else if parseF (fieldB bs 6)≠some (sumTo bs 512:Int) then (zeroH,3)
 else if fieldB bs 9≠ustarB∧fieldB bs 9≠gnuB then (zeroH,9)
 else if numsOkB bs=true then (theHead bs,0) else (zeroH,4)
theorem headR_arg {bs:List UInt8} (h:bs.length≠512):headR bs=(zeroH,1):=if_pos h
theorem headR_sum {bs:List UInt8} (h:bs.length=512) (h1:parseF (fieldB bs 6)≠some (sumTo bs 512:Int)):headR bs=(zeroH,3):=by
 rw [headR,if_neg (by simp [h]),if_pos h1]
theorem headR_text {bs:List UInt8} (h:bs.length=512) (h1:parseF (fieldB bs 6)=some (sumTo bs 512:Int)) (h2:fieldB bs 9≠ustarB∧fieldB bs 9≠gnuB):headR bs=(zeroH,9):=by
 rw [headR,if_neg (by simp [h]),if_neg (by simp [h1]),if_pos h2]
theorem headR_num {bs:List UInt8} (h:bs.length=512) (h1:parseF (fieldB bs 6)=some (sumTo bs 512:Int)) (h2:fieldB bs 9=ustarB ∨ fieldB bs 9=gnuB) (h3:numsOkB bs=false):headR bs=(zeroH,4):=by
 rw [headR,if_neg (by simp [h]),if_neg (by simp [h1]),if_neg (by rcases h2 with h2 | h2<;>simp [h2]),if_neg (by simp [h3])]
theorem headR_ok {bs:List UInt8} (h:bs.length=512) (h1:parseF (fieldB bs 6)=some (sumTo bs 512:Int)) (h2:fieldB bs 9=ustarB ∨ fieldB bs 9=gnuB) (h3:numsOkB bs=true):headR bs=(theHead bs,0):=by
 rw [headR,if_neg (by simp [h]),if_neg (by simp [h1]),if_neg (by rcases h2 with h2 | h2<;>simp [h2]),if_pos h3]
theorem numsOkB_iff {bs:List UInt8}:numsOkB bs=true ↔ ∀ i,1≤i → i≤5 → okI (parseF (fieldB bs i))=true:=by
 unfold numsOkB;rw [List.all_eq_true];constructor
 ·intro h i h1 h2
  have:=h (i - 1) (List.mem_range.2 (by omega))
  rwa [show i - 1+1=i by omega] at this
 ·intro h i hi
  have:=List.mem_range.1 hi;exact h (i+1) (by omega) (by omega)
def mayCut (name:List UInt8) (i:Nat):Prop:=name.getD i 0=47∧1≤i∧i≤155∧i+2≤name.length∧name.length≤i+101
instance (name:List UInt8) (i:Nat):Decidable (mayCut name i):=by unfold mayCut;exact inferInstance
def cutI (name:List UInt8):Option Nat:=(List.range name.length).find? fun i => decide (mayCut name i)
def cutR (name:List UInt8):Option (List UInt8 × List UInt8):=
 if name.length≤100 then some ([],name) else (cutI name).map fun i => (name.take i,name.drop (i+1))
theorem cutI_some {name:List UInt8} {k:Nat} (hk:mayCut name k) (hlt:∀ j,j < k → ¬ mayCut name j):cutI name=some k:=by
 have hn:k < name.length:=by unfold mayCut at hk;omega
 unfold cutI;rw [List.find?_eq_some_iff_getElem];refine ⟨by simpa using hk,k,by simpa using hn,by simp,fun j hj => by simpa using hlt j hj⟩
theorem cutI_none {name:List UInt8} (h:∀ j,j < name.length → ¬ mayCut name j):cutI name=none:=by
 unfold cutI;rw [List.find?_eq_none];intro j hj
 simpa using h j (List.mem_range.1 hj)
theorem cutR_short {name:List UInt8} (h:name.length≤100):cutR name=some ([],name):=if_pos h
theorem cutR_at {name:List UInt8} {k:Nat} (h:¬ name.length≤100) (hk:mayCut name k) (hlt:∀ j,j < k → ¬ mayCut name j):cutR name=some (name.take k,name.drop (k+1)):=by
 rw [cutR,if_neg h,cutI_some hk hlt];rfl
theorem cutR_none {name:List UInt8} (h:¬ name.length≤100) (hn:∀ j,j < name.length → ¬ mayCut name j):cutR name=none:=by
 rw [cutR,if_neg h,cutI_none hn];rfl
theorem cutR_spec {name p s:List UInt8} (h:cutR name=some (p,s)):s.length≤100∧p.length≤155∧((p=[]∧s=name) ∨ (p≠[]∧name=p++47 :: s)):=by
 unfold cutR at h
 split at h
 ·cases h
  exact ⟨‹_›,by simp,Or.inl ⟨rfl,rfl⟩⟩
 ·cases hc:cutI name with
  | none => rw [hc] at h;cases h
  | some k =>
    rw [hc] at h;simp only [Option.map_some,Option.some.injEq,Prod.mk.injEq] at h;obtain ⟨rfl,rfl⟩:=h
    have hm:mayCut name k:=by
     unfold cutI at hc
     simpa using List.find?_some hc
    obtain ⟨h1,h2,h3,h4,h5⟩:=hm;refine ⟨by rw [List.length_drop];omega,by rw [List.length_take];omega,Or.inr ⟨fun e => ?_,?_⟩⟩
    ·have:=congrArg List.length e
     rw [List.length_take,List.length_nil] at this;omega
    ·have hk:k < name.length:=by omega
     have e1:name=name.take k++name.drop k:=(List.take_append_drop k name).symm;rw [List.drop_eq_getElem_cons hk] at e1;have e2:name[k]=47:=by simpa [List.getD,hk] using h1
     rw [e2] at e1;exact e1
def padTo (n:Nat) (s:List UInt8):List UInt8:=s++List.replicate (n - s.length) 0
theorem padTo_length {n:Nat} {s:List UInt8} (h:s.length≤n):(padTo n s).length=n:=by
 simp only [padTo,List.length_append,List.length_replicate];omega
theorem putInto_zero (n:Nat) (s:List UInt8):putInto (List.replicate n 0) s=padTo n s:=by
 simp [putInto,padTo,List.drop_replicate]
def numB (h:HeadV) (i:Nat):List UInt8:=bytesOf ((putF (numH h i) (wideF i)).getD [])
def numsOk (h:HeadV):Bool:=(List.range 5).all fun i => (putF (numH h (i+1)) (wideF (i+1))).isSome
theorem numsOk_iff {h:HeadV}:numsOk h=true ↔ ∀ i,1≤i → i≤5 → (putF (numH h i) (wideF i)).isSome=true:=by
 unfold numsOk;rw [List.all_eq_true];constructor
 ·intro g i h1 h2
  have:=g (i - 1) (List.mem_range.2 (by omega))
  rwa [show i - 1+1=i by omega] at this
 ·intro g i hi
  have:=List.mem_range.1 hi;exact g (i+1) (by omega) (by omega)
theorem numB_some {h:HeadV} {i:Nat} {l:List Int} (hp:putF (numH h i) (wideF i)=some l):numB h i=bytesOf l:=by rw [numB,hp];rfl
theorem numB_length {h:HeadV} {i:Nat} (hp:(putF (numH h i) (wideF i)).isSome=true):(numB h i).length=wideF i:=by
 obtain ⟨l,hl⟩:=Option.isSome_iff_exists.1 hp;rw [numB_some hl,bytesOf_length];have:=(putF_length hl).1;omega
def badH (h:HeadV):Bool:=h.gnu || h.kind == 0 || decide (100 < h.link.length) || h.name.contains 0 || h.link.contains 0
def own1 (h:HeadV) (p s:List UInt8) (i:Nat):List UInt8:=
 if i=0 then padTo 100 s else if i=6 then List.replicate 8 0 else if i=7 then [h.kind] else if i=8 then padTo 100 h.link else if i=9 then ustarB else if i=10 then padTo 155 p else if i≤5 then numB h i else []
def sumB (n:Nat):List UInt8:=bytesOf (putD 8 48 6 n++[0])++[32]
theorem sumB_length (n:Nat):(sumB n).length=8:=by simp [sumB,bytesOf_length,putD_length]
def own2 (h:HeadV) (p s:List UInt8):Nat → List UInt8:=upd (own1 h p s) 6 (sumB (sumTo (blockA (own1 h p s)) 512))
def putR (h:HeadV):Option (List UInt8):=
 match cutR h.name with
 | none => none
 | some ps => if badH h || !numsOk h then none else some (blockA (own2 h ps.1 ps.2))
theorem own1_fits {h:HeadV} {p s:List UInt8} (hs:s.length≤100) (hp:p.length≤155) (hl:h.link.length≤100) (hn:numsOk h=true):Fits (own1 h p s):=fun i => by
 unfold own1
 by_cases hi:i < 11
 ·rcases cases11 hi with rfl | rfl | rfl | rfl | rfl | rfl | rfl | rfl | rfl | rfl | rfl
  ·simpa [wideF] using padTo_length hs
  ·simpa using numB_length (numsOk_iff.1 hn 1 (by omega) (by omega))
  ·simpa using numB_length (numsOk_iff.1 hn 2 (by omega) (by omega))
  ·simpa using numB_length (numsOk_iff.1 hn 3 (by omega) (by omega))
  ·simpa using numB_length (numsOk_iff.1 hn 4 (by omega) (by omega))
  ·simpa using numB_length (numsOk_iff.1 hn 5 (by omega) (by omega))
  ·simp [wideF]
  ·simp [wideF]
  ·simpa [wideF] using padTo_length hl
  ·simp [wideF,ustarB]
  ·simpa [wideF] using padTo_length hp
 ·rw [wide_none hi,if_neg (by omega),if_neg (by omega),if_neg (by omega),if_neg (by omega),if_neg (by omega),if_neg (by omega),if_neg (by omega)]
  rfl
theorem own2_fits {h:HeadV} {p s:List UInt8} (hs:s.length≤100) (hp:p.length≤155) (hl:h.link.length≤100) (hn:numsOk h=true):Fits (own2 h p s):=
 (own1_fits hs hp hl hn).upd (by rw [sumB_length];rfl)
theorem restD6 {n:Nat} (h:n < 262144):restD 8 6 n=0:=by
 simp only [restD];omega
theorem putF_sum {n:Nat} (h:n < 262144):putF n 7=some (putD 8 48 6 n++[0]):=putF_fits (by omega) (by omega) (by omega) (by omega) (restD6 h)
theorem parseF_sum {n:Nat} (h:n < 262144):parseF (sumB n)=some (n:Int):=by
 have:=parseF_octal n 6 (by omega) (by omega) (by omega) (restD6 h) [] [0,32] (by simp) (by simp)
 rw [List.nil_append] at this;rw [sumB,bytesOf_append,List.append_assoc];exact this
theorem badH_spec {h:HeadV} (hb:badH h=false):h.gnu=false∧h.kind≠0∧h.link.length≤100∧(∀ x ∈ h.name,x≠0)∧(∀ x ∈ h.link,x≠0):=by
 simp only [badH,Bool.or_eq_false_iff,beq_eq_false_iff_ne,decide_eq_false_iff_not,List.contains_eq_mem,ne_eq] at hb;obtain ⟨⟨⟨⟨h1,h2⟩,h3⟩,h4⟩,h5⟩:=hb;exact ⟨h1,h2,by omega,fun x hx e => h4 (e ▸ hx),fun x hx e => h5 (e ▸ hx)⟩
theorem headR_of {h:HeadV} {p s:List UInt8} (hc:cutR h.name=some (p,s)) (hb:badH h=false) (hn:numsOk h=true) {bs:List UInt8} (hl:bs.length=512)
 (hf:∀ i,i < 11 → i≠6 → fieldB bs i=own1 h p s i) (h6:fieldB bs 6=sumB (sumTo bs 512)):headR bs=(h,0):=by
 obtain ⟨hg,hk,hlk,hz1,hz2⟩:=badH_spec hb;obtain ⟨hs,hp,hps⟩:=cutR_spec hc;have hsum:=sumTo_le bs 512
 have hnum:∀ i,1≤i → i≤5 → parseF (fieldB bs i)=some (numH h i):=fun i h1 h2 => by
  obtain ⟨l,hl⟩:=Option.isSome_iff_exists.1 (numsOk_iff.1 hn i h1 h2);rw [hf i (by omega) (by omega),own1,if_neg (by omega),if_neg (by omega),if_neg (by omega),if_neg (by omega),if_neg (by omega),if_neg (by omega),if_pos h2,numB_some hl]
  exact parseF_putF hl
 have e9:fieldB bs 9=ustarB:=by rw [hf 9 (by omega) (by omega)];simp [own1]
 rw [headR_ok hl (by rw [h6];exact parseF_sum (by omega)) (Or.inl e9) (numsOkB_iff.2 fun i h1 h2 => by rw [hnum i h1 h2];rfl)]
 have e0:untilB (fieldB bs 0)=s:=by
  rw [hf 0 (by omega) (by omega)]
  refine untilB_app (fun x hx => hz1 x ?_) _
  rcases hps with ⟨_,rfl⟩ | ⟨_,e⟩
  ·exact hx
  ·rw [e];simp [hx]
 have e10:untilB (fieldB bs 10)=p:=by
  rw [hf 10 (by omega) (by omega)]
  refine untilB_app (fun x hx => hz1 x ?_) _
  rcases hps with ⟨rfl,_⟩ | ⟨_,e⟩
  ·simp at hx
  ·rw [e];simp [hx]
 have e8:untilB (fieldB bs 8)=h.link:=by
  rw [hf 8 (by omega) (by omega)]
  exact untilB_app hz2 _
 have e7:kindB bs=h.kind:=by
  have:fieldB bs 7=[h.kind]:=by rw [hf 7 (by omega) (by omega)];simp [own1]
  rw [kindB,this];exact if_neg hk
 have eg:gnuOf bs=false:=by rw [gnuOf,e9];decide
 have ev:∀ i,1≤i → i≤5 → valB bs i=numH h i:=fun i h1 h2 => by rw [valB,hnum i h1 h2];rfl
 have en:nameF p s false=h.name:=by
  unfold nameF;rcases hps with ⟨rfl,rfl⟩ | ⟨hne,e⟩
  ·rw [if_pos (Or.inr rfl)]
  ·rw [if_neg (by simp [hne]),e]
 rw [theHead,e0,e10,e8,e7,eg,ev 1 (by omega) (by omega),ev 2 (by omega) (by omega),ev 3 (by omega) (by omega),ev 4 (by omega) (by omega),ev 5 (by omega) (by omega),en]
 cases h
 simp only [numH] at *;rw [hg]
theorem putR_some {h:HeadV} {bs:List UInt8} (hp:putR h=some bs):∃ p s,cutR h.name=some (p,s)∧badH h=false∧numsOk h=true∧bs=blockA (own2 h p s):=by
 unfold putR at hp
 cases hc:cutR h.name with
 | none => rw [hc] at hp;cases hp
 | some ps =>
   rw [hc] at hp;simp only at hp
   split at hp
   ·cases hp
   ·rename_i hh
    simp only [Bool.or_eq_true,Bool.not_eq_true',not_or,Bool.not_eq_true,Bool.not_eq_false] at hh;exact ⟨ps.1,ps.2,rfl,hh.1,hh.2,(Option.some.inj hp).symm⟩
theorem own2_field {h:HeadV} {p s:List UInt8} (hc:cutR h.name=some (p,s)) (hb:badH h=false) (hn:numsOk h=true) :
 (∀ i,i < 11 → i≠6 → fieldB (blockA (own2 h p s)) i=own1 h p s i)∧fieldB (blockA (own2 h p s)) 6=sumB (sumTo (blockA (own2 h p s)) 512):=by
 obtain ⟨hg,hk,hlk,hz1,hz2⟩:=badH_spec hb;obtain ⟨hs,hp,hps⟩:=cutR_spec hc;have hfit:=own2_fits hs hp hlk hn;refine ⟨fun i hi h6 => by rw [field_blockA hfit hi,own2,upd_other _ _ h6],?_⟩
 rw [field_blockA hfit (by omega),own2,upd_same]
 refine congrArg sumB (sumTo_congr fun x hx hn => ?_)
 rw [blockA_get _ hx,blockA_get _ hx,upd_other _ _ (fun e => hn ((fld_iff (by omega)).1 e))]
theorem headR_put {h:HeadV} {bs:List UInt8} (hp:putR h=some bs):headR bs=(h,0):=by
 obtain ⟨p,s,hc,hb,hn,rfl⟩:=putR_some hp;have:=own2_field hc hb hn;exact headR_of hc hb hn (blockA_length _) this.1 this.2
end Go.Proofs.YtnpkcneojilmkaaGreatDoor.Hp
end
