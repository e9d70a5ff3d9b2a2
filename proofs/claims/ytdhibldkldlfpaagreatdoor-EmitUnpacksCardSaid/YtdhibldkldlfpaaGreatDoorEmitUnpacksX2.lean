/- Merged. -/
import Derived.Lib.SlTrimSet
import Derived.Lib.Bytes
namespace Go.Proofs.YtdhibldkldlfpaaGreatDoor
namespace Fp
open Go.Lib
variable {n wide:Int} {l:List Int}
def jT (base zero:Int):List UInt8→Int→Option Int
 |[],s=>some s
 |c::l,s=>if zero≤(c.toNat:Int)∧(c.toNat:Int)<zero+base∧s*base+((c.toNat:Int) - zero)≤4611686018427387904 then jT base zero l (s*base+((c.toNat:Int) - zero))else none
def kQ (base zero lim:Int):List UInt8→Int→Int × Bool
 |[],s=>(s,decide (s≤4611686018427387904))
 |c::l,s=>if zero≤(c.toNat:Int)∧(c.toNat:Int)<zero+base∧s≤lim then kQ base zero lim l (s*base+((c.toNat:Int) - zero))else(0,false)
def BF:Option Int→Bool
 |some _=>true
 |none=>false
def tU:Option Int→Int
 |some s=>s
 |none=>0
theorem FE (base zero lim:Int) (hl:lim≤4611686018427387904):∀(l:List UInt8) (s:Int),4611686018427387904<s→(kQ base zero lim l s).2=false
 |[],s,h=>by simp only[kQ,decide_eq_false_iff_not];omega
 |c::l,s,h=>by rw[kQ,if_neg (by omega)]
theorem FD:∀(l:List UInt8) (s:Int),0≤s→s≤4611686018427387904→
 (kQ 8 48 576460752303423488 l s).2=BF (jT 8 48 l s)∧(BF (jT 8 48 l s)=true→(kQ 8 48 576460752303423488 l s).1=tU (jT 8 48 l s))
 |[],s,h0,h1=>by simp[kQ,jT,BF,tU,h1]
 |c::l,s,h0,h1=>by
  by_cases h:48≤(c.toNat:Int)∧(c.toNat:Int)<48+8∧s*8+((c.toNat:Int) - 48)≤4611686018427387904
  ·rw[jT,if_pos h,kQ,if_pos (by omega)]
   exact FD l _ (by omega) h.2.2
  ·rw[jT,if_neg h]
   refine⟨?_,fun h=>by simp[BF]at h⟩;show(kQ 8 48 576460752303423488 (c::l) s).2=false
   by_cases A:48≤(c.toNat:Int)∧(c.toNat:Int)<48+8∧s≤576460752303423488
   ·rw[kQ,if_pos A];exact FE _ _ _ (by omega) l _ (by omega)
   ·rw[kQ,if_neg A]
theorem AE:∀(l:List UInt8) (s:Int),0≤s→s≤4611686018427387904→
 (kQ 256 0 18014398509481984 l s).2=BF (jT 256 0 l s)∧(BF (jT 256 0 l s)=true→(kQ 256 0 18014398509481984 l s).1=tU (jT 256 0 l s))
 |[],s,h0,h1=>by simp[kQ,jT,BF,tU,h1]
 |c::l,s,h0,h1=>by
  by_cases h:0≤(c.toNat:Int)∧(c.toNat:Int)<0+256∧s*256+((c.toNat:Int) - 0)≤4611686018427387904
  ·rw[jT,if_pos h,kQ,if_pos (by omega)]
   exact AE l _ (by omega) h.2.2
  ·rw[jT,if_neg h]
   refine⟨?_,fun h=>by simp[BF]at h⟩;show(kQ 256 0 18014398509481984 (c::l) s).2=false
   by_cases A:0≤(c.toNat:Int)∧(c.toNat:Int)<0+256∧s≤18014398509481984
   ·rw[kQ,if_pos A];exact FE _ _ _ (by omega) l _ (by omega)
   ·rw[kQ,if_neg A]
theorem Gp (base zero:Int):∀(l:List UInt8) (s r:Int),0≤s→s≤4611686018427387904→0≤base→jT base zero l s=some r→0≤r∧r≤4611686018427387904
 |[],s,r,h0,h1,_,h=>by simp[jT]at h;omega
 |c::l,s,r,h0,h1,hb,h=>by
  rw[jT]at h;split at h
  ·rename_i hc
   have:=Int.mul_nonneg h0 hb;exact Gp base zero l _ r (by omega) hc.2.2 hb h
  ·cases h
theorem Qt (base zero:Int) (zs:List UInt8) (k:Nat) (s:Int) (h:k<zs.length) (hc:zero≤((zs.getD k 0).toNat:Int)∧((zs.getD k 0).toNat:Int)<zero+base∧s*base+(((zs.getD k 0).toNat:Int) - zero)≤4611686018427387904):
 jT base zero (zs.drop k) s=jT base zero (zs.drop (k+1)) (s*base+(((zs.getD k 0).toNat:Int) - zero)):=by
 rw[List.drop_eq_getElem_cons h,jT];have e:zs[k]=zs.getD k 0:=by simp[List.getD,h]
 rw[e,if_pos hc]
theorem zb (base zero:Int) (zs:List UInt8) (k:Nat) (s:Int) (h:k<zs.length) (hc:¬(zero≤((zs.getD k 0).toNat:Int)∧((zs.getD k 0).toNat:Int)<zero+base∧s*base+(((zs.getD k 0).toNat:Int) - zero)≤4611686018427387904)):
 jT base zero (zs.drop k) s=none:=by
 rw[List.drop_eq_getElem_cons h,jT];have e:zs[k]=zs.getD k 0:=by simp[List.getD,h]
 rw[e,if_neg hc]
theorem FF (base zero lim:Int) (zs:List UInt8) (k:Nat) (s:Int) (h:k<zs.length) (hc:zero≤((zs.getD k 0).toNat:Int)∧((zs.getD k 0).toNat:Int)<zero+base∧s≤lim):
 kQ base zero lim (zs.drop k) s=kQ base zero lim (zs.drop (k+1)) (s*base+(((zs.getD k 0).toNat:Int) - zero)):=by
 rw[List.drop_eq_getElem_cons h,kQ];have e:zs[k]=zs.getD k 0:=by simp[List.getD,h]
 rw[e,if_pos hc]
theorem FG (base zero lim:Int) (zs:List UInt8) (k:Nat) (s:Int) (h:k<zs.length) (hc:¬(zero≤((zs.getD k 0).toNat:Int)∧((zs.getD k 0).toNat:Int)<zero+base∧s≤lim)):
 kQ base zero lim (zs.drop k) s=(0,false):=by
 rw[List.drop_eq_getElem_cons h,kQ];have e:zs[k]=zs.getD k 0:=by simp[List.getD,h]
 rw[e,if_neg hc]
theorem Af (base zero:Int):∀(l r:List UInt8) (s:Int),jT base zero (l++r) s=(jT base zero l s).bind (jT base zero r)
 |[],r,s=>by simp[jT]
 |c::l,r,s=>by
  rw[List.cons_append,jT,jT];split
  ·exact Af base zero l r _
  ·rfl
def lf (base zero:Int):Nat→Int→List Int
 |0,_=>[]
 |k+1,n=>lf base zero k (n / base)++[zero+n % base]
def ko (base:Int):Nat→Int→Int
 |0,n=>n
 |k+1,n=>ko base k (n / base)
theorem jP (base zero:Int):∀(k:Nat) (n:Int),(lf base zero k n).length=k
 |0,_=>rfl
 |k+1,n=>by rw[lf,List.length_append,jP base zero k];rfl
theorem yB (base zero:Int) (hb:0<base):∀(k:Nat) (n:Int),∀x∈lf base zero k n,zero≤x∧x<zero+base
 |0,_,x,h=>by simp[lf]at h
 |k+1,n,x,h=>by
  rw[lf,List.mem_append]at h;rcases h with h|h
  ·exact yB base zero hb k _ x h
  ·have h1:=Int.emod_nonneg n (show base≠0 by omega)
   have A:=Int.emod_lt_of_pos n hb;simp only[List.mem_cons,List.mem_nil_iff,or_false]at h;omega
theorem qQ (a b:List Int):bytesOf (a++b)=bytesOf a++bytesOf b:=by simp[bytesOf]
theorem wX (x:Int) (h0:0≤x) (h1:x<256):((UInt8.ofNat x.toNat).toNat:Int)=x:=by
 rw[UInt8.toNat_ofNat'];omega
theorem za (base zero:Int) (hb:0<base) (hz:0≤zero) (hzb:zero+base≤256):∀(k:Nat) (n:Int),0≤n→n≤4611686018427387904→ko base k n=0→jT base zero (bytesOf (lf base zero k n)) 0=some n
 |0,n,_,_,h=>by simp only[ko]at h;subst h;rfl
 |k+1,n,h0,h1,h=>by
  have B:=Int.emod_nonneg n (show base≠0 by omega);have D:=Int.emod_lt_of_pos n hb;have A:n / base*base+n % base=n:=by rw[Int.mul_comm];exact Int.mul_ediv_add_emod n base
  have E:n / base≤n:=Int.ediv_le_self base h0;rw[lf,qQ,Af,za base zero hb hz hzb k (n / base) (Int.ediv_nonneg h0 (by omega)) (by omega) h];show jT base zero [UInt8.ofNat (zero+n % base).toNat] (n / base)=some n
  rw[jT,wX _ (by omega) (by omega),if_pos (by refine⟨by omega,by omega,?_⟩;rw[show zero+n % base - zero=n % base by omega,A];exact h1),jT,
   show zero+n % base - zero=n % base by omega,A]
def nJ (n wide:Int):Option (List Int):=
 if 0≤n∧n≤4611686018427387904∧2≤wide∧wide≤100 then
  if ko 8 (wide - 1).toNat n=0 then some (lf 8 48 (wide - 1).toNat n++[0])
  else if ko 256 (wide - 1).toNat n=0 then some (128::lf 256 0 (wide - 1).toNat n)else none
 else none
def aY:List UInt8→Option Int
 |[]=>none
 |c::l=>if(c.toNat:Int)=128 then jT 256 0 l 0 else jT 8 48 (trimRightS (trimLeftS (c::l) [32]) [32,0]) 0
theorem YV (h:nJ n wide=some l):∀x∈l,0≤x∧x<256:=by
 unfold nJ at h;split at h
 ·split at h
  ·cases h
   intro x hx;rw[List.mem_append]at hx;rcases hx with hx|hx
   ·have:=yB 8 48 (by omega) _ _ x hx;omega
   ·simp at hx;omega
  ·split at h
   ·cases h
    intro x hx;rw[List.mem_cons]at hx;rcases hx with hx|hx
    ·omega
    ·have:=yB 256 0 (by omega) _ _ x hx;omega
   ·cases h
 ·cases h
theorem Az (h:nJ n wide=some l):(l.length:Int)=wide∧2≤wide∧wide≤100∧0≤n∧n≤4611686018427387904:=by
 unfold nJ at h;split at h
 ·rename_i hc
  split at h
  ·cases h;simp[jP];omega
  ·split at h
   ·cases h;simp[jP];omega
   ·cases h
 ·cases h
theorem Kw (l:List UInt8) (d:List UInt8) (b1 b2:List UInt8) (h1:∀x∈b1,x=32) (h2:∀x∈b2,x=32∨x=0) (hl:l=b1++d++b2) (hd:∀x∈d,x≠32∧x≠0) (ck:d≠[]):
 trimRightS (trimLeftS l [32]) [32,0]=d:=by
 have B:trimLeftS l [32]=d++b2:=by
  subst hl;unfold trimLeftS;rw[List.append_assoc]
  induction b1 with
  |nil=>
   cases d with
   |nil=>exact absurd rfl ck
   |cons c t=>
    have:=(hd c (List.mem_cons_self ..)).1;rw[List.nil_append,List.cons_append,List.dropWhile_cons,if_neg (by simp[this])]
  |cons x t ih=>
   have A:=h1 x (List.mem_cons_self ..);rw[List.cons_append,List.dropWhile_cons,if_pos (by simp[A])];exact ih fun y hy=>h1 y (List.mem_cons_of_mem _ hy)
 rw[B];unfold trimRightS;rw[List.reverse_append]
 have D:∀(a b:List UInt8),(∀x∈a,x=32∨x=0)→(∀x∈b.head?,x≠32∧x≠0)→(a++b).dropWhile ([32,0].contains ·)=b:=by
  intro a b ha E
  induction a with
  |nil=>
   cases b with
   |nil=>rfl
   |cons c t=>
    have:=E c (by simp);rw[List.nil_append,List.dropWhile_cons,if_neg (by simp[this.1,this.2])]
  |cons x t ih=>
   have A:=ha x (List.mem_cons_self ..);rw[List.cons_append,List.dropWhile_cons,if_pos (by rcases A with rfl|rfl<;>simp)];exact ih fun y hy=>ha y (List.mem_cons_of_mem _ hy)
 rw[D b2.reverse d.reverse (fun x A=>h2 x (List.mem_reverse.1 A)) (fun x A=>hd x (by rw[←List.mem_reverse];exact List.mem_of_mem_head? A)),List.reverse_reverse]
theorem Ac {y:UInt8} (h:y∈bytesOf l):∃x∈l,y=UInt8.ofNat x.toNat:=by
 unfold bytesOf at h;obtain⟨x,A,rfl⟩:=List.mem_map.1 h;exact⟨x,A,rfl⟩
theorem MU {x:Int} (h0:48≤x) (h1:x<56):UInt8.ofNat x.toNat≠32∧UInt8.ofNat x.toNat≠0:=by
 have e:=wX x (by omega) (by omega);constructor<;>intro h<;>rw[h]at e<;>simp at e<;>omega
theorem yy (n:Int) (k:Nat) (hk:0<k) (h0:0≤n) (h1:n≤4611686018427387904) (hr:ko 8 k n=0) (b1 b2:List UInt8) (g1:∀x∈b1,x=32) (g2:∀x∈b2,x=32∨x=0):
 aY (b1++bytesOf (lf 8 48 k n)++b2)=some n:=by
 have hd:∀x∈bytesOf (lf 8 48 k n),x≠32∧x≠0:=fun y hy=>by
  obtain⟨x,E,rfl⟩:=Ac hy;have:=yB 8 48 (by omega) _ _ x E;exact MU (by omega) (by omega)
 have hlen:(bytesOf (lf 8 48 k n)).length=k:=by rw[bytesOf_length,jP]
 have B:bytesOf (lf 8 48 k n)≠[]:=by intro h;rw[h]at hlen;simp at hlen;omega
 have G:=Kw _ _ b1 b2 g1 g2 rfl hd B;have A:=za 8 48 (by omega) (by omega) (by omega) k n h0 h1 hr
 cases hl:b1++bytesOf (lf 8 48 k n)++b2 with
 |nil=>simp at hl;exact absurd hl.2.1 B
 |cons c t=>
  have hc:(c.toNat:Int)≠128:=by
   cases b1 with
   |cons x r=>
    simp only[List.cons_append,List.cons.injEq]at hl;have:=g1 x (List.mem_cons_self ..);rw[←hl.1,this];decide
   |nil=>
    cases D:bytesOf (lf 8 48 k n)with
    |nil=>exact absurd D B
    |cons y r=>
     rw[D,List.nil_append,List.cons_append]at hl;simp only[List.cons.injEq]at hl;obtain⟨x,E,e⟩:=Ac (l:=lf 8 48 k n) (y:=y) (by rw[D];exact List.mem_cons_self ..);have H:=yB 8 48 (by omega) _ _ x E;rw[←hl.1,e,wX x (by omega) (by omega)];omega
  rw[aY,if_neg hc,←hl,G,A]
theorem JX (h:nJ n wide=some l):aY (bytesOf l)=some n:=by
 unfold nJ at h;split at h
 ·rename_i hc
  split at h
  ·rename_i A
   cases h
   have:=yy n (wide - 1).toNat (by omega) hc.1 hc.2.1 A [] [0] (by simp) (by simp);rw[List.nil_append]at this;rw[qQ];exact this
  ·split at h
   ·rename_i A
    cases h
    show aY (UInt8.ofNat (128:Int).toNat::bytesOf (lf 256 0 (wide - 1).toNat n))=some n;rw[aY,if_pos (by decide)];exact za 256 0 (by omega) (by omega) (by omega) _ n hc.1 hc.2.1 A
   ·cases h
 ·cases h
theorem RE {bs:List UInt8} {r:Int} (h:aY bs=some r):0≤r∧r≤4611686018427387904:=by
 cases bs with
 |nil=>simp[aY]at h
 |cons c l=>
  rw[aY]at h;split at h
  ·exact Gp 256 0 _ 0 r (by omega) (by omega) (by omega) h
  ·exact Gp 8 48 _ 0 r (by omega) (by omega) (by omega) h
theorem Ia (bs:List UInt8) (i j:Nat) (A8:i≤j) (hj:j≤bs.length) (h1:∀k,k<i→bs.getD k 0=32) (h2:i<j→bs.getD i 0≠32∧bs.getD (j - 1) 0≠32∧bs.getD (j - 1) 0≠0)
 (h3:∀k,j≤k→k<bs.length→bs.getD k 0=32∨bs.getD k 0=0) (h4:i<bs.length→bs.getD i 0≠32):trimRightS (trimLeftS bs [32]) [32,0]=(bs.drop i).take (j - i):=by
 have B:∀(k:Nat) (b:UInt8),bs[k]? =some b→bs.getD k 0=b:=fun k b h=>by simp[List.getD,h]
 have E:trimLeftS bs [32]=bs.drop i:=trimLeftS_drop bs [32] i (by omega) (fun k b hk A=>by
  have:=h1 k hk;rw[B k b A]at this;simp[this]) (fun b A=>by
  have hi:i<bs.length:=(List.getElem?_eq_some_iff.1 A).1
  have:=h4 hi;rw[B i b A]at this;simp[this])
 rw[E];refine trimRightS_take _ _ (j - i) (by rw[List.length_drop];omega) (fun k b hk A=>?_) (fun b hk A=>?_)
 ·rw[List.getElem?_drop]at A
  have D:=(List.getElem?_eq_some_iff.1 A).1;have:=h3 (i+k) (by omega) D;rw[B _ b A]at this;rcases this with h|h<;>simp[h]
 ·rw[List.getElem?_drop]at A
  have:=h2 (by omega);rw[show i+(j - i - 1)=j - 1 by omega]at A;rw[B _ b A]at this;simp[this.2.1,this.2.2]
theorem zz (h0:0≤n) (h1:n≤4611686018427387904) (h2:2≤wide) (h3:wide≤100) (hr:ko 8 (wide - 1).toNat n=0):nJ n wide=some (lf 8 48 (wide - 1).toNat n++[0]):=by
 rw[nJ,if_pos ⟨h0,h1,h2,h3⟩,if_pos hr]
end Fp
end Go.Proofs.YtdhibldkldlfpaaGreatDoor
