/- Merged. -/
import Derived.Lib.SlTrimSet
import Derived.Lib.Bytes
namespace Go.Proofs.YtdhibldkldlfpaaGreatDoor
namespace Fp
open Go.Lib
variable {n wide:Int} {l:List Int}
def fj (base zero:Int):List UInt8→Int→Option Int
 |[],s=>some s
 |c::l,s=>if zero≤(c.toNat:Int)∧(c.toNat:Int)<zero+base∧s*base+((c.toNat:Int) - zero)≤4611686018427387904 then fj base zero l (s*base+((c.toNat:Int) - zero))else none
def Li:Option Int→Bool
 |some _=>true
 |none=>false
def pb:Option Int→Int
 |some s=>s
 |none=>0
theorem xt (base zero:Int):∀(l:List UInt8) (s r:Int),0≤s→s≤4611686018427387904→0≤base→fj base zero l s=some r→0≤r∧r≤4611686018427387904
 |[],s,r,h0,h1,_,h=>by simp[fj]at h;omega
 |c::l,s,r,h0,h1,hb,h=>by
  rw[fj]at h;split at h
  ·rename_i hc
   have:=Int.mul_nonneg h0 hb;exact xt base zero l _ r (by omega) hc.2.2 hb h
  ·cases h
theorem Gn (base zero:Int) (zs:List UInt8) (k:Nat) (s:Int) (h:k<zs.length) (hc:zero≤((zs.getD k 0).toNat:Int)∧((zs.getD k 0).toNat:Int)<zero+base∧s*base+(((zs.getD k 0).toNat:Int) - zero)≤4611686018427387904):
 fj base zero (zs.drop k) s=fj base zero (zs.drop (k+1)) (s*base+(((zs.getD k 0).toNat:Int) - zero)):=by
 rw[List.drop_eq_getElem_cons h,fj];have e:zs[k]=zs.getD k 0:=by simp[List.getD,h]
 rw[e,if_pos hc]
theorem pC (base zero:Int) (zs:List UInt8) (k:Nat) (s:Int) (h:k<zs.length) (hc:¬(zero≤((zs.getD k 0).toNat:Int)∧((zs.getD k 0).toNat:Int)<zero+base∧s*base+(((zs.getD k 0).toNat:Int) - zero)≤4611686018427387904)):
 fj base zero (zs.drop k) s=none:=by
 rw[List.drop_eq_getElem_cons h,fj];have e:zs[k]=zs.getD k 0:=by simp[List.getD,h]
 rw[e,if_neg hc]
theorem qn (base zero:Int):∀(l r:List UInt8) (s:Int),fj base zero (l++r) s=(fj base zero l s).bind (fj base zero r)
 |[],r,s=>by simp[fj]
 |c::l,r,s=>by
  rw[List.cons_append,fj,fj];split
  ·exact qn base zero l r _
  ·rfl
def eG (base zero:Int):Nat→Int→List Int
 |0,_=>[]
 |k+1,n=>eG base zero k (n / base)++[zero+n % base]
def dV (base:Int):Nat→Int→Int
 |0,n=>n
 |k+1,n=>dV base k (n / base)
theorem dj (base zero:Int):∀(k:Nat) (n:Int),(eG base zero k n).length=k
 |0,_=>rfl
 |k+1,n=>by rw[eG,List.length_append,dj base zero k];rfl
theorem oZ (base zero:Int) (hb:0<base):∀(k:Nat) (n:Int),∀x∈eG base zero k n,zero≤x∧x<zero+base
 |0,_,x,h=>by simp[eG]at h
 |k+1,n,x,h=>by
  rw[eG,List.mem_append]at h;rcases h with h|h
  ·exact oZ base zero hb k _ x h
  ·have h1:=Int.emod_nonneg n (show base≠0 by omega)
   have A:=Int.emod_lt_of_pos n hb;simp only[List.mem_cons,List.mem_nil_iff,or_false]at h;omega
theorem iV (a b:List Int):bytesOf (a++b)=bytesOf a++bytesOf b:=by simp[bytesOf]
theorem nE (x:Int) (h0:0≤x) (h1:x<256):((UInt8.ofNat x.toNat).toNat:Int)=x:=by
 rw[UInt8.toNat_ofNat'];omega
theorem pB (base zero:Int) (hb:0<base) (hz:0≤zero) (hzb:zero+base≤256):∀(k:Nat) (n:Int),0≤n→n≤4611686018427387904→dV base k n=0→fj base zero (bytesOf (eG base zero k n)) 0=some n
 |0,n,_,_,h=>by simp only[dV]at h;subst h;rfl
 |k+1,n,h0,h1,h=>by
  have B:=Int.emod_nonneg n (show base≠0 by omega);have D:=Int.emod_lt_of_pos n hb;have A:n / base*base+n % base=n:=by rw[Int.mul_comm];exact Int.mul_ediv_add_emod n base
  have E:n / base≤n:=Int.ediv_le_self base h0;rw[eG,iV,qn,pB base zero hb hz hzb k (n / base) (Int.ediv_nonneg h0 (by omega)) (by omega) h];show fj base zero [UInt8.ofNat (zero+n % base).toNat] (n / base)=some n
  rw[fj,nE _ (by omega) (by omega),if_pos (by refine⟨by omega,by omega,?_⟩;rw[show zero+n % base - zero=n % base by omega,A];exact h1),fj,
   show zero+n % base - zero=n % base by omega,A]
def eZ (n wide:Int):Option (List Int):=
 if 0≤n∧n≤4611686018427387904∧2≤wide∧wide≤100 then
  if dV 8 (wide - 1).toNat n=0 then some (eG 8 48 (wide - 1).toNat n++[0])
  else if dV 256 (wide - 1).toNat n=0 then some (128::eG 256 0 (wide - 1).toNat n)else none
 else none
def bp:List UInt8→Option Int
 |[]=>none
 |c::l=>if(c.toNat:Int)=128 then fj 256 0 l 0 else fj 8 48 (trimRightS (trimLeftS (c::l) [32]) [32,0]) 0
theorem Od (h:eZ n wide=some l):∀x∈l,0≤x∧x<256:=by
 unfold eZ at h;split at h
 ·split at h
  ·cases h
   intro x hx;rw[List.mem_append]at hx;rcases hx with hx|hx
   ·have:=oZ 8 48 (by omega) _ _ x hx;omega
   ·simp at hx;omega
  ·split at h
   ·cases h
    intro x hx;rw[List.mem_cons]at hx;rcases hx with hx|hx
    ·omega
    ·have:=oZ 256 0 (by omega) _ _ x hx;omega
   ·cases h
 ·cases h
theorem qM (h:eZ n wide=some l):(l.length:Int)=wide∧2≤wide∧wide≤100∧0≤n∧n≤4611686018427387904:=by
 unfold eZ at h;split at h
 ·rename_i hc
  split at h
  ·cases h;simp[dj];omega
  ·split at h
   ·cases h;simp[dj];omega
   ·cases h
 ·cases h
theorem AM (l:List UInt8) (d:List UInt8) (b1 b2:List UInt8) (h1:∀x∈b1,x=32) (h2:∀x∈b2,x=32∨x=0) (hl:l=b1++d++b2) (hd:∀x∈d,x≠32∧x≠0) (cV:d≠[]):
 trimRightS (trimLeftS l [32]) [32,0]=d:=by
 have D:trimLeftS l [32]=d++b2:=by
  subst hl;unfold trimLeftS;rw[List.append_assoc]
  induction b1 with
  |nil=>
   cases d with
   |nil=>exact absurd rfl cV
   |cons c t=>
    have:=(hd c (List.mem_cons_self ..)).1;rw[List.nil_append,List.cons_append,List.dropWhile_cons,if_neg (by simp[this])]
  |cons x t ih=>
   have A:=h1 x (List.mem_cons_self ..);rw[List.cons_append,List.dropWhile_cons,if_pos (by simp[A])];exact ih fun y hy=>h1 y (List.mem_cons_of_mem _ hy)
 rw[D];unfold trimRightS;rw[List.reverse_append]
 have E:∀(a b:List UInt8),(∀x∈a,x=32∨x=0)→(∀x∈b.head?,x≠32∧x≠0)→(a++b).dropWhile ([32,0].contains ·)=b:=by
  intro a b B G
  induction a with
  |nil=>
   cases b with
   |nil=>rfl
   |cons c t=>
    have:=G c (by simp);rw[List.nil_append,List.dropWhile_cons,if_neg (by simp[this.1,this.2])]
  |cons x t ih=>
   have A:=B x (List.mem_cons_self ..);rw[List.cons_append,List.dropWhile_cons,if_pos (by rcases A with rfl|rfl<;>simp)];exact ih fun y hy=>B y (List.mem_cons_of_mem _ hy)
 rw[E b2.reverse d.reverse (fun x A=>h2 x (List.mem_reverse.1 A)) (fun x A=>hd x (by rw[←List.mem_reverse];exact List.mem_of_mem_head? A)),List.reverse_reverse]
theorem qk {y:UInt8} (h:y∈bytesOf l):∃x∈l,y=UInt8.ofNat x.toNat:=by
 unfold bytesOf at h;obtain⟨x,A,rfl⟩:=List.mem_map.1 h;exact⟨x,A,rfl⟩
theorem Di {x:Int} (h0:48≤x) (h1:x<56):UInt8.ofNat x.toNat≠32∧UInt8.ofNat x.toNat≠0:=by
 have e:=nE x (by omega) (by omega);constructor<;>intro h<;>rw[h]at e<;>simp at e<;>omega
theorem oW (n:Int) (k:Nat) (hk:0<k) (h0:0≤n) (h1:n≤4611686018427387904) (hr:dV 8 k n=0) (b1 b2:List UInt8) (g1:∀x∈b1,x=32) (g2:∀x∈b2,x=32∨x=0):
 bp (b1++bytesOf (eG 8 48 k n)++b2)=some n:=by
 have hd:∀x∈bytesOf (eG 8 48 k n),x≠32∧x≠0:=fun y hy=>by
  obtain⟨x,D,rfl⟩:=qk hy;have:=oZ 8 48 (by omega) _ _ x D;exact Di (by omega) (by omega)
 have hlen:(bytesOf (eG 8 48 k n)).length=k:=by rw[bytesOf_length,dj]
 have A:bytesOf (eG 8 48 k n)≠[]:=by intro h;rw[h]at hlen;simp at hlen;omega
 have G:=AM _ _ b1 b2 g1 g2 rfl hd A;have E:=pB 8 48 (by omega) (by omega) (by omega) k n h0 h1 hr
 cases hl:b1++bytesOf (eG 8 48 k n)++b2 with
 |nil=>simp at hl;exact absurd hl.2.1 A
 |cons c t=>
  have hc:(c.toNat:Int)≠128:=by
   cases b1 with
   |cons x r=>
    simp only[List.cons_append,List.cons.injEq]at hl;have:=g1 x (List.mem_cons_self ..);rw[←hl.1,this];decide
   |nil=>
    cases B:bytesOf (eG 8 48 k n)with
    |nil=>exact absurd B A
    |cons y r=>
     rw[B,List.nil_append,List.cons_append]at hl;simp only[List.cons.injEq]at hl;obtain⟨x,D,e⟩:=qk (l:=eG 8 48 k n) (y:=y) (by rw[B];exact List.mem_cons_self ..);have H:=oZ 8 48 (by omega) _ _ x D;rw[←hl.1,e,nE x (by omega) (by omega)];omega
  rw[bp,if_neg hc,←hl,G,E]
theorem Ag (h:eZ n wide=some l):bp (bytesOf l)=some n:=by
 unfold eZ at h;split at h
 ·rename_i hc
  split at h
  ·rename_i A
   cases h
   have:=oW n (wide - 1).toNat (by omega) hc.1 hc.2.1 A [] [0] (by simp) (by simp);rw[List.nil_append]at this;rw[iV];exact this
  ·split at h
   ·rename_i A
    cases h
    show bp (UInt8.ofNat (128:Int).toNat::bytesOf (eG 256 0 (wide - 1).toNat n))=some n;rw[bp,if_pos (by decide)];exact pB 256 0 (by omega) (by omega) (by omega) _ n hc.1 hc.2.1 A
   ·cases h
 ·cases h
theorem Hy {bs:List UInt8} {r:Int} (h:bp bs=some r):0≤r∧r≤4611686018427387904:=by
 cases bs with
 |nil=>simp[bp]at h
 |cons c l=>
  rw[bp]at h;split at h
  ·exact xt 256 0 _ 0 r (by omega) (by omega) (by omega) h
  ·exact xt 8 48 _ 0 r (by omega) (by omega) (by omega) h
theorem pT (h0:0≤n) (h1:n≤4611686018427387904) (h2:2≤wide) (h3:wide≤100) (hr:dV 8 (wide - 1).toNat n=0):eZ n wide=some (eG 8 48 (wide - 1).toNat n++[0]):=by
 rw[eZ,if_pos ⟨h0,h1,h2,h3⟩,if_pos hr]
end Fp
end Go.Proofs.YtdhibldkldlfpaaGreatDoor
