/- Texts of this seat, merged: what the proof reaches. -/
import Derived.Lib.SlTrimSet
import Derived.Lib.Bytes
section
namespace Go.Proofs.YtnpkcneojilmkaaGreatDoor.Fp
open Go.Lib
def digF (base zero:Int):List UInt8 → Int → Option Int
 | [],s => some s
 | c :: l,s => if zero≤(c.toNat:Int)∧(c.toNat:Int) < zero+base∧s * base+((c.toNat:Int) - zero)≤4611686018427387904 then digF base zero l (s * base+((c.toNat:Int) - zero)) else none
def okI:Option Int → Bool
 | some _ => true
 | none => false
def valI:Option Int → Int
 | some s => s
 | none => 0
theorem digF_bd (base zero:Int):∀ (l:List UInt8) (s r:Int),0≤s → s≤4611686018427387904 → 0≤base → digF base zero l s=some r → 0≤r∧r≤4611686018427387904
 | [],s,r,h0,h1,_,h => by simp [digF] at h;omega
 | c :: l,s,r,h0,h1,hb,h => by
   rw [digF] at h
   split at h
   ·rename_i hc
    have:=Int.mul_nonneg h0 hb;exact digF_bd base zero l _ r (by omega) hc.2.2 hb h
   ·cases h
theorem digF_step (base zero:Int) (zs:List UInt8) (k:Nat) (s:Int) (h:k < zs.length) (hc:zero≤((zs.getD k 0).toNat:Int)∧((zs.getD k 0).toNat:Int) < zero+base∧s * base+(((zs.getD k 0).toNat:Int) - zero)≤4611686018427387904) :
 digF base zero (zs.drop k) s=digF base zero (zs.drop (k+1)) (s * base+(((zs.getD k 0).toNat:Int) - zero)):=by
 rw [List.drop_eq_getElem_cons h,digF];have e:zs[k]=zs.getD k 0:=by simp [List.getD,h]
 rw [e,if_pos hc]
theorem digF_stop (base zero:Int) (zs:List UInt8) (k:Nat) (s:Int) (h:k < zs.length) (hc:¬ (zero≤((zs.getD k 0).toNat:Int)∧((zs.getD k 0).toNat:Int) < zero+base∧s * base+(((zs.getD k 0).toNat:Int) - zero)≤4611686018427387904)) :
 digF base zero (zs.drop k) s=none:=by
 rw [List.drop_eq_getElem_cons h,digF];have e:zs[k]=zs.getD k 0:=by simp [List.getD,h]
 rw [e,if_neg hc]
theorem digF_append (base zero:Int):∀ (l r:List UInt8) (s:Int),digF base zero (l++r) s=(digF base zero l s).bind (digF base zero r)
 | [],r,s => by simp [digF]
 | c :: l,r,s => by
   rw [List.cons_append,digF,digF]
   split
   ·exact digF_append base zero l r _
   ·rfl
def putD (base zero:Int):Nat → Int → List Int
 | 0,_ => []
 | k+1,n => putD base zero k (n / base)++[zero+n % base]
def restD (base:Int):Nat → Int → Int
 | 0,n => n
 | k+1,n => restD base k (n / base)
theorem putD_length (base zero:Int):∀ (k:Nat) (n:Int),(putD base zero k n).length=k
 | 0,_ => rfl
 | k+1,n => by rw [putD,List.length_append,putD_length base zero k];rfl
theorem putD_bd (base zero:Int) (hb:0 < base):∀ (k:Nat) (n:Int),∀ x ∈ putD base zero k n,zero≤x∧x < zero+base
 | 0,_,x,h => by simp [putD] at h
 | k+1,n,x,h => by
   rw [putD,List.mem_append] at h;rcases h with h | h
   ·exact putD_bd base zero hb k _ x h
   ·have h1:=Int.emod_nonneg n (show base≠0 by omega)
    have h2:=Int.emod_lt_of_pos n hb;simp only [List.mem_cons,List.mem_nil_iff,or_false] at h;omega
theorem bytesOf_append (a b:List Int):bytesOf (a++b)=bytesOf a++bytesOf b:=by simp [bytesOf]
theorem byte_toNat (x:Int) (h0:0≤x) (h1:x < 256):((UInt8.ofNat x.toNat).toNat:Int)=x:=by
 rw [UInt8.toNat_ofNat'];omega
theorem digF_putD (base zero:Int) (hb:0 < base) (hz:0≤zero) (hzb:zero+base≤256):∀ (k:Nat) (n:Int),0≤n → n≤4611686018427387904 → restD base k n=0 → digF base zero (bytesOf (putD base zero k n)) 0=some n
 | 0,n,_,_,h => by simp only [restD] at h;subst h;rfl
 | k+1,n,h0,h1,h => by
   have e1:=Int.emod_nonneg n (show base≠0 by omega)
   have e2:=Int.emod_lt_of_pos n hb;have e3:n / base * base+n % base=n:=by rw [Int.mul_comm];exact Int.mul_ediv_add_emod n base
   have e4:n / base≤n:=Int.ediv_le_self base h0;rw [putD,bytesOf_append,digF_append,digF_putD base zero hb hz hzb k (n / base) (Int.ediv_nonneg h0 (by omega)) (by omega) h]
   show digF base zero [UInt8.ofNat (zero+n % base).toNat] (n / base)=some n
   rw [digF,byte_toNat _ (by omega) (by omega),if_pos (by refine ⟨by omega,by omega,?_⟩;rw [show zero+n % base - zero=n % base by omega,e3];exact h1),digF,
    show zero+n % base - zero=n % base by omega,e3]
def putF (n wide:Int):Option (List Int):=
 if 0≤n∧n≤4611686018427387904∧2≤wide∧wide≤100 then
  if restD 8 (wide - 1).toNat n=0 then some (putD 8 48 (wide - 1).toNat n++[0])
  else if restD 256 (wide - 1).toNat n=0 then some (128 :: putD 256 0 (wide - 1).toNat n) else none
 else none
def parseF:List UInt8 → Option Int
 | [] => none
 | c :: l => if (c.toNat:Int)=128 then digF 256 0 l 0 else digF 8 48 (trimRightS (trimLeftS (c :: l) [32]) [32,0]) 0
theorem putF_bd {n wide:Int} {l:List Int} (h:putF n wide=some l):∀ x ∈ l,0≤x∧x < 256:=by
 unfold putF at h
 split at h
 ·split at h
  ·cases h
   intro x hx;rw [List.mem_append] at hx;rcases hx with hx | hx
   ·have:=putD_bd 8 48 (by omega) _ _ x hx;omega
   ·simp at hx;omega
  ·split at h
   ·cases h
    intro x hx;rw [List.mem_cons] at hx;rcases hx with hx | hx
    ·omega
    ·have:=putD_bd 256 0 (by omega) _ _ x hx;omega
   ·cases h
 ·cases h
theorem putF_length {n wide:Int} {l:List Int} (h:putF n wide=some l):(l.length:Int)=wide∧2≤wide∧wide≤100∧0≤n∧n≤4611686018427387904:=by
 unfold putF at h
 split at h
 ·rename_i hc
  split at h
  ·cases h;simp [putD_length];omega
  ·split at h
   ·cases h;simp [putD_length];omega
   ·cases h
 ·cases h
theorem trim_digits (l:List UInt8) (d:List UInt8) (b1 b2:List UInt8) (h1:∀ x ∈ b1,x=32) (h2:∀ x ∈ b2,x=32 ∨ x=0) (hl:l=b1++d++b2) (hd:∀ x ∈ d,x≠32∧x≠0) (hne:d≠[]) :
 trimRightS (trimLeftS l [32]) [32,0]=d:=by
 have e1:trimLeftS l [32]=d++b2:=by
  subst hl;unfold trimLeftS;rw [List.append_assoc]
  induction b1 with
  | nil =>
    cases d with
    | nil => exact absurd rfl hne
    | cons c t =>
      have:=(hd c (List.mem_cons_self ..)).1;rw [List.nil_append,List.cons_append,List.dropWhile_cons,if_neg (by simp [this])]
  | cons x t ih =>
    have hx:=h1 x (List.mem_cons_self ..);rw [List.cons_append,List.dropWhile_cons,if_pos (by simp [hx])]
    exact ih fun y hy => h1 y (List.mem_cons_of_mem _ hy)
 rw [e1];unfold trimRightS;rw [List.reverse_append]
 have e2:∀ (a b:List UInt8),(∀ x ∈ a,x=32 ∨ x=0) → (∀ x ∈ b.head?,x≠32∧x≠0) → (a++b).dropWhile ([32,0].contains ·)=b:=by
  intro a b ha hb
  induction a with
  | nil =>
    cases b with
    | nil => rfl
    | cons c t =>
      have:=hb c (by simp)
      rw [List.nil_append,List.dropWhile_cons,if_neg (by simp [this.1,this.2])]
  | cons x t ih =>
    have hx:=ha x (List.mem_cons_self ..);rw [List.cons_append,List.dropWhile_cons,if_pos (by rcases hx with rfl | rfl<;>simp)]
    exact ih fun y hy => ha y (List.mem_cons_of_mem _ hy)
 rw [e2 b2.reverse d.reverse (fun x hx => h2 x (List.mem_reverse.1 hx)) (fun x hx => hd x (by rw [← List.mem_reverse];exact List.mem_of_mem_head? hx)),List.reverse_reverse]
theorem bytesOf_mem {l:List Int} {y:UInt8} (h:y ∈ bytesOf l):∃ x ∈ l,y=UInt8.ofNat x.toNat:=by
 unfold bytesOf at h;obtain ⟨x,hx,rfl⟩:=List.mem_map.1 h;exact ⟨x,hx,rfl⟩
theorem octal_byte {x:Int} (h0:48≤x) (h1:x < 56):UInt8.ofNat x.toNat≠32∧UInt8.ofNat x.toNat≠0:=by
 have e:=byte_toNat x (by omega) (by omega)
 constructor<;>intro h<;>rw [h] at e<;>simp at e<;>omega
theorem parseF_octal (n:Int) (k:Nat) (hk:0 < k) (h0:0≤n) (h1:n≤4611686018427387904) (hr:restD 8 k n=0) (b1 b2:List UInt8) (g1:∀ x ∈ b1,x=32) (g2:∀ x ∈ b2,x=32 ∨ x=0) :
 parseF (b1++bytesOf (putD 8 48 k n)++b2)=some n:=by
 have hd:∀ x ∈ bytesOf (putD 8 48 k n),x≠32∧x≠0:=fun y hy => by
  obtain ⟨x,hx,rfl⟩:=bytesOf_mem hy;have:=putD_bd 8 48 (by omega) _ _ x hx
  exact octal_byte (by omega) (by omega)
 have hlen:(bytesOf (putD 8 48 k n)).length=k:=by rw [bytesOf_length,putD_length]
 have hne:bytesOf (putD 8 48 k n)≠[]:=by intro h;rw [h] at hlen;simp at hlen;omega
 have ht:=trim_digits _ _ b1 b2 g1 g2 rfl hd hne;have hdig:=digF_putD 8 48 (by omega) (by omega) (by omega) k n h0 h1 hr
 cases hl:b1++bytesOf (putD 8 48 k n)++b2 with
 | nil => simp at hl;exact absurd hl.2.1 hne
 | cons c t =>
   have hc:(c.toNat:Int)≠128:=by
    cases b1 with
    | cons x r =>
      simp only [List.cons_append,List.cons.injEq] at hl;have:=g1 x (List.mem_cons_self ..);rw [← hl.1,this];decide
    | nil =>
      cases hb:bytesOf (putD 8 48 k n) with
      | nil => exact absurd hb hne
      | cons y r =>
        rw [hb,List.nil_append,List.cons_append] at hl;simp only [List.cons.injEq] at hl;obtain ⟨x,hx,e⟩:=bytesOf_mem (l:=putD 8 48 k n) (y:=y) (by rw [hb];exact List.mem_cons_self ..)
        have h2:=putD_bd 8 48 (by omega) _ _ x hx
        rw [← hl.1,e,byte_toNat x (by omega) (by omega)]
        omega
   rw [parseF,if_neg hc,← hl,ht,hdig]
theorem parseF_putF {n wide:Int} {l:List Int} (h:putF n wide=some l):parseF (bytesOf l)=some n:=by
 unfold putF at h
 split at h
 ·rename_i hc
  split at h
  ·rename_i hr
   cases h
   have:=parseF_octal n (wide - 1).toNat (by omega) hc.1 hc.2.1 hr [] [0] (by simp) (by simp)
   rw [List.nil_append] at this;rw [bytesOf_append];exact this
  ·split at h
   ·rename_i hr
    cases h
    show parseF (UInt8.ofNat (128:Int).toNat :: bytesOf (putD 256 0 (wide - 1).toNat n))=some n;rw [parseF,if_pos (by decide)]
    exact digF_putD 256 0 (by omega) (by omega) (by omega) _ n hc.1 hc.2.1 hr
   ·cases h
 ·cases h
theorem parseF_bd {bs:List UInt8} {r:Int} (h:parseF bs=some r):0≤r∧r≤4611686018427387904:=by
 cases bs with
 | nil => simp [parseF] at h
 | cons c l =>
   rw [parseF] at h
   split at h
   ·exact digF_bd 256 0 _ 0 r (by omega) (by omega) (by omega) h
   ·exact digF_bd 8 48 _ 0 r (by omega) (by omega) (by omega) h
end Go.Proofs.YtnpkcneojilmkaaGreatDoor.Fp
end
section
namespace Go.Proofs.YtnpkcneojilmkaaGreatDoor.Fp
open Go.Lib
theorem putF_fits {n wide:Int} (h0:0≤n) (h1:n≤4611686018427387904) (h2:2≤wide) (h3:wide≤100) (hr:restD 8 (wide - 1).toNat n=0):putF n wide=some (putD 8 48 (wide - 1).toNat n++[0]):=by
 rw [putF,if_pos ⟨h0,h1,h2,h3⟩,if_pos hr]
end Go.Proofs.YtnpkcneojilmkaaGreatDoor.Fp
end
