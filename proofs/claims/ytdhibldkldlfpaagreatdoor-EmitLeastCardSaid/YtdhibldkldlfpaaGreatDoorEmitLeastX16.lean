/- Merged. -/
import Derived.Test.YtdhibldkldlfpaaGreatDoorEmitLeastX11
import Derived.OpenShut
import Derived.ShutString
import Derived.Test.YtdhibldkldlfpaaGreatDoorEmitLeastX5
import Derived.Test.YtdhibldkldlfpaaGreatDoorEmitLeastX2
import Derived.Test.YtdhibldkldlfpaaGreatDoorEmitLeastX9
namespace Go.Proofs.YtdhibldkldlfpaaGreatDoor
namespace qd
end qd
set_option linter.unusedVariables false
set_option maxHeartbeats 800000
set_option maxRecDepth 100000
open Go.ChangeShapes Go.WideShapes Go.ChangeAt Go.RowKit Base
namespace qd
variable {l m n:Int}
def Jd (n l m:Int):Bool:=decide (l≤n∧n≤m)
theorem fK (h1:l≤n) (h2:n≤m):Jd n l m=true:=by simp[Jd,h1,h2]
theorem iP (h:¬(l≤n∧n≤m)):Jd n l m=false:=by simp only[Jd,decide_eq_false_iff_not];exact h
theorem dX (n l m:Int) (w:World) (h1:l≤n) (h2:n≤m):
 Calls Tryz.prog 152 #[.int .i64 n,.int .i64 l,.int .i64 m] w fun e w'=>e=.returned (.bool true)∧w=w':=by
 go_enter Tryz.func152,Tryz.ntmps152
 go_wp2;go_ret;exact⟨rfl,rfl⟩
theorem jb (n l m:Int) (w:World) (h:¬(l≤n∧n≤m)):
 Calls Tryz.prog 152 #[.int .i64 n,.int .i64 l,.int .i64 m] w fun e w'=>e=.returned (.bool false)∧w=w':=by
 by_cases h1:l≤n
 ·have A:¬n≤m:=fun A=>h ⟨h1,A⟩
  clear h
  go_enter Tryz.func152,Tryz.ntmps152
  go_wp2;go_ret;exact⟨rfl,rfl⟩
 ·clear h
  go_enter Tryz.func152,Tryz.ntmps152
  go_wp2;go_ret;exact⟨rfl,rfl⟩
theorem kL (n l m:Int) (w:World):
 Calls Tryz.prog 152 #[.int .i64 n,.int .i64 l,.int .i64 m] w fun e w'=>e=.returned (.bool (Jd n l m))∧w=w':=by
 by_cases h:l≤n∧n≤m
 ·rw[fK h.1 h.2];exact dX n l m w h.1 h.2
 ·rw[iP h];exact jb n l m w h
def lq:List Int→Int→Option Int
 |[],s=>some s
 |x::l,s=>if 0≤x∧x≤4611686018427387904 - s then lq l (s+x)else none
def Ma:Option Int→Int
 |some s=>s
 |none=>0
def okO:Option Int→Bool
 |some _=>true
 |none=>false
theorem drop_cons (zs:List Int) (k:Nat) (h:k<zs.length):zs.drop k=zs.getD k 0::zs.drop (k+1):=by
 rw[List.drop_eq_getElem_cons h];simp[List.getD,h]
theorem IE (zs:List Int) (k:Nat) (s:Int) (h:k<zs.length) (h0:0≤zs.getD k 0) (h1:zs.getD k 0≤4611686018427387904 - s):
 lq (zs.drop k) s=lq (zs.drop (k+1)) (s+zs.getD k 0):=by
 rw[drop_cons zs k h,lq,if_pos ⟨h0,h1⟩]
theorem IF (zs:List Int) (k:Nat) (s:Int) (h:k<zs.length) (h0:¬(0≤zs.getD k 0∧zs.getD k 0≤4611686018427387904 - s)):
 lq (zs.drop k) s=none:=by
 rw[drop_cons zs k h,lq,if_neg h0]
theorem JL (b off len cap:Nat) (zs:List Int) (w:World) (hl:zs.length=len) (hm:len≤maxLen)
 (hc:∀i,i<len→w.cell? ⟨b,off+i,none⟩=some (.int .i64 (zs.getD i 0))):
 Calls Tryz.prog 162 #[.slice (some ⟨b,off,none⟩) len cap] w fun e w'=>e=.returned (.tuple #[.int .i64 (Ma (lq zs 0)),.bool (okO (lq zs 0))])∧w=w':=by
 unfold maxLen at hm;have B:Hid (zs.length=len):=hl;have HC:Hid (∀i,i<len→w.cell? ⟨b,off+i,none⟩=some (.int .i64 (zs.getD i 0))):=hc;clear hl hc
 go_enter Tryz.func162,Tryz.ntmps162
 go_wp2
 go_loop [4,9] (fun t i=>∃(k:Nat) (s:Int),k≤len∧0≤s∧s≤4611686018427387904∧i=.int .i64 k∧t=.int .i64 s∧Hid (lq (zs.drop k) s=lq zs 0)) (fun _ i=>len - (RowKit.intOf i).toNat)
 case atStart=>exact⟨0,0,Nat.zero_le _,by omega,by decide,rfl,rfl,rfl⟩
 case round=>
  obtain⟨k,s,hk,M,N,rfl,rfl,G⟩:=hrel
  by_cases D:k<len
  ·have hcell:=HC.out k D
   obtain⟨z,H⟩:∃z,z=zs.getD k 0:=⟨_,rfl⟩
   rw[←H]at hcell;have A:Hid (z=zs.getD k 0):=H;clear H
   by_cases I:0≤z∧z≤4611686018427387904 - s
   ·obtain⟨J,h1⟩:=I
    go_wp2_with (go_at_call 152;refine(dX _ _ _ _ (by omega) (by omega)).mono ?_;rintro e w' ⟨rfl,rfl⟩)
    go_round
    case rel=>exact⟨k+1,s+z,by omega,by omega,by omega,by go_num,rfl,Qh (by rw[←G.out,IE zs k s (by rw[B.out];exact D) (by rw[←A.out];exact J) (by rw[←A.out];exact h1),←A.out])⟩
    case measure=>simp[RowKit.intOf];omega
   ·go_wp2_with (go_at_call 152;refine(jb _ _ _ _ I).mono ?_;rintro e w' ⟨rfl,rfl⟩)
    go_ret2;have E:lq zs 0=none:=by rw[←G.out];exact IF zs k s (by rw[B.out];exact D) (by rw[←A.out];exact I)
    rw[E];exact⟨rfl,rfl⟩
  ·have L:Hid (k=len):=Qh (by omega)
   go_wp2;go_ret2;have E:lq zs 0=some s:=by rw[←G.out,L.out,←B.out,List.drop_length];rfl
   rw[E];exact⟨rfl,rfl⟩
theorem uf (a b:Int):lq [a,b] 0=if 0≤a∧a≤4611686018427387904∧0≤b∧a+b≤4611686018427387904 then some (a+b)else none:=by
 simp only[lq]
 by_cases h:0≤a∧a≤4611686018427387904 - 0
 ·rw[if_pos h]
  by_cases A:0≤b∧b≤4611686018427387904 - (0+a)
  ·rw[if_pos A,if_pos (by omega),Int.zero_add]
  ·rw[if_neg A,if_neg (by omega)]
 ·rw[if_neg h,if_neg (by omega)]
theorem xj (a b:Int) (w:World):
 Calls Tryz.prog 162 #[.slice (some ⟨w.heap.size,0,none⟩) 2 2] (w.alloc (.cells #[.int .i64 a,.int .i64 b] 3)) fun e w'=>e=.returned (.tuple #[.int .i64 (Ma (lq [a,b] 0)),.bool (okO (lq [a,b] 0))])∧w.alloc (.cells #[.int .i64 a,.int .i64 b] 3)=w':=
 JL _ _ 2 2 [a,b] _ rfl (by decide) (fun i hi=>by
  match i,hi with
  |0,_=>simp
  |1,_=>simp)
def yf (n:Int):Int:=if 0≤n∧n≤4611686018427387904 then(if n % 512=0 then n else n+(512 - n % 512))else 0
theorem Fa (n:Int) (w:World):
 Calls Tryz.prog 128 #[.int .i64 n] w fun e w'=>e=.returned (.tuple #[.int .i64 (yf n),.bool (Jd n 0 4611686018427387904)])∧Below w.heap.size w w':=by
 by_cases h:0≤n∧n≤4611686018427387904
 ·obtain⟨D,h1⟩:=h
  by_cases A:n % 512=0
  ·have B:Hid (yf n=n):=Qh (by rw[yf,if_pos ⟨D,h1⟩,if_pos A])
   have G:(n % 512==0)=true:=by simpa using A
   have E:=Qh A;clear A
   go_enter Tryz.func128,Tryz.ntmps128
   go_wp2_with (go_at_call 152;refine(dX _ _ _ _ (by omega) (by omega)).mono ?_;rintro e w' ⟨rfl,rfl⟩)
   go_ret2;rw[B.out,fK D h1];exact⟨rfl,Below.refl _ _⟩
  ·have B:Hid (yf n=n+(512 - n % 512)):=Qh (by rw[yf,if_pos ⟨D,h1⟩,if_neg A])
   have G:(n % 512==0)=false:=by simpa using A
   have E:=Qh A;clear A
   go_enter Tryz.func128,Tryz.ntmps128
   go_wp2_with (go_at_call 152;refine(dX _ _ _ _ (by omega) (by omega)).mono ?_;rintro e w' ⟨rfl,rfl⟩)
   refine(xj n (512 - n % 512) _).mono ?_;rintro e w' ⟨rfl,rfl⟩;rw[uf,if_pos (by have:=E.out;omega)];go_wp2;go_ret2;rw[B.out,fK D h1];exact⟨rfl,(Below.refl _ _).alloc (Qk _) _⟩
 ·have B:Hid (yf n=0):=Qh (by rw[yf,if_neg h])
  go_enter Tryz.func128,Tryz.ntmps128
  go_wp2_with (go_at_call 152;refine(jb _ _ _ _ h).mono ?_;rintro e w' ⟨rfl,rfl⟩)
  go_ret2;rw[B.out,iP h];exact⟨rfl,Below.refl _ _⟩
def nf (a b:Int):Option Int:=if 0≤a∧a≤4611686018427387904∧0≤b∧b≤4611686018427387904∧a*b≤4611686018427387904 then some (a*b)else none
theorem JX (a b:Int) (h:0<a):4611686018427387904 / a<b↔4611686018427387904<a*b:=by
 rw[Int.ediv_lt_iff_lt_mul h,Int.mul_comm]
theorem EZ (a b:Int) (w:World):
 Calls Tryz.prog 172 #[.int .i64 a,.int .i64 b] w fun e w'=>e=.returned (.tuple #[.int .i64 (Ma (nf a b)),.bool (okO (nf a b))])∧w=w':=by
 by_cases h:0≤a∧a≤4611686018427387904
 ·obtain⟨B,h1⟩:=h
  by_cases A:0≤b∧b≤4611686018427387904
  ·obtain⟨A,D⟩:=A
   by_cases G:0<a
   ·by_cases H:4611686018427387904 / a<b
    ·have E:Hid (nf a b=none):=Qh (by rw[nf,if_neg];intro L;have:=(JX a b G).1 H;omega)
     go_enter Tryz.func172,Tryz.ntmps172
     go_wp2_with (go_at_call 152;refine(dX _ _ _ _ (by omega) (by omega)).mono ?_;rintro e w' ⟨rfl,rfl⟩)
     go_ret2;rw[E.out];exact⟨rfl,rfl⟩
    ·have I:a*b≤4611686018427387904:=by have:=mt (JX a b G).2 H;omega
     have J:0≤a*b:=Int.mul_nonneg B A;have E:Hid (nf a b=some (a*b)):=Qh (by rw[nf,if_pos ⟨B,h1,A,D,I⟩])
     go_enter Tryz.func172,Tryz.ntmps172
     go_wp2_with (go_at_call 152;refine(dX _ _ _ _ (by omega) (by omega)).mono ?_;rintro e w' ⟨rfl,rfl⟩)
     go_ret2;rw[E.out];exact⟨rfl,rfl⟩
   ·obtain rfl:a=0:=by omega
    have E:Hid (nf 0 b=some 0):=Qh (by rw[nf,if_pos ⟨B,h1,A,D,by omega⟩,Int.zero_mul])
    go_enter Tryz.func172,Tryz.ntmps172
    go_wp2_with (go_at_call 152;refine(dX _ _ _ _ (by omega) (by omega)).mono ?_;rintro e w' ⟨rfl,rfl⟩)
    go_ret2;rw[E.out];exact⟨rfl,rfl⟩
  ·have E:Hid (nf a b=none):=Qh (by rw[nf,if_neg (by omega)])
   go_enter Tryz.func172,Tryz.ntmps172
   go_wp2_with (go_at_call 152;first|(refine(dX _ _ _ _ (by omega) (by omega)).mono ?_;rintro e w' ⟨rfl,rfl⟩)|(refine(jb _ _ _ _ A).mono ?_;rintro e w' ⟨rfl,rfl⟩))
   go_ret2;rw[E.out];exact⟨rfl,rfl⟩
 ·have E:Hid (nf a b=none):=Qh (by rw[nf,if_neg (by omega)])
  go_enter Tryz.func172,Tryz.ntmps172
  go_wp2_with (go_at_call 152;refine(jb _ _ _ _ h).mono ?_;rintro e w' ⟨rfl,rfl⟩)
  go_ret2;rw[E.out];exact⟨rfl,rfl⟩
end qd
namespace Path
open Go.Shelf bJ cn Go.Lib
theorem KO (c p:List UInt8) (w:World) (hm:c.length+p.length≤140737488351500):
 Calls Tryz.prog 151 #[.string (str c),.string (str p)] w fun e w'=>e=.returned (.string (str (bF c p)))∧w=w':=by
 have hs:(str c).size+1+(str p).size≤9223372036854775807:=by rw[aq,aq];omega
 have H:(str c).size+1≤9223372036854775807:=by omega
 clear hm
 by_cases h1:p=[]
 ·have e:str (bF c p)=str c:=by unfold bF;rw[if_pos (.inl h1)]
  have D:(str p).toList.isEmpty=true:=by rw[aV];simpa using h1
  rw[e];clear e h1
  go_enter Tryz.func151,Tryz.ntmps151
  go_wp2;go_ret;exact⟨rfl,rfl⟩
 ·have D:(str p).toList.isEmpty=false:=by rw[aV];simpa using h1
  by_cases A:p=[46]
  ·have e:str (bF c p)=str c:=by unfold bF;rw[if_pos (.inr A)]
   have E:((str p).toList==[46])=true:=by rw[il];simpa using A
   rw[e];clear e h1 A
   go_enter Tryz.func151,Tryz.ntmps151
   go_wp2;go_ret;exact⟨rfl,rfl⟩
  ·have E:((str p).toList==[46])=false:=by rw[il];simpa using A
   by_cases B:c=[]
   ·have e:str (bF c p)=str p:=by unfold bF;rw[if_neg (by simp[h1,A]),if_pos B]
    have G:(str c).toList.isEmpty=true:=by rw[aV];simpa using B
    rw[e];clear e h1 A B
    go_enter Tryz.func151,Tryz.ntmps151
    go_wp2;go_ret;exact⟨rfl,rfl⟩
   ·have e:str c++⟨#[47]⟩++str p=str (bF c p):=by
     unfold bF;rw[if_neg (by simp[h1,A]),if_neg B,show(⟨#[47]⟩:ByteArray)=str [47]from rfl,eM,eM];simp
    have G:(str c).toList.isEmpty=false:=by rw[aV];simpa using B
    rw[←e];clear e h1 A B
    go_enter Tryz.func151,Tryz.ntmps151
    go_wp2;go_ret;exact⟨rfl,rfl⟩
theorem oL (a b:List UInt8) (w:World):
 Calls Tryz.prog 45 #[.string (str a),.string (str b)] w fun e w'=>e=.returned (.bool (Op.bytesLess a b))∧w=w':=by
 rw[show Op.bytesLess a b=Op.bytesLess (str a).toList (str b).toList by rw[ay,ay]]
 go_enter Tryz.func45,Tryz.ntmps45
 go_wp2;go_ret;exact⟨rfl,rfl⟩
def na (l:List UInt8):List UInt8 × List UInt8 × Bool:=
 if 0≤Lib.indexByte l 47 then(l.take (Lib.indexByte l 47).toNat,l.drop ((Lib.indexByte l 47).toNat+1),true)else(l,[],false)
theorem Iy (l:List UInt8) (w:World) (hm:l.length≤140737488351232):
 Calls Tryz.prog 181 #[.string (str l),.string ⟨#[47]⟩] w fun e w'=>e=.returned (.tuple #[.string (str (na l).1),.string (str (na l).2.1),.bool (na l).2.2])∧∃n,w'=w.drewN n:=by
 have A:=Any.stringslite_Index_one Tryz.pL (str l) 47 w;rw[bg]at A;have hs:(str l).size=l.length:=aq l;unfold na
 by_cases h:0≤Lib.indexByte l 47
 ·obtain⟨k,hk⟩:∃k:Nat,Lib.indexByte l 47=k:=⟨(Lib.indexByte l 47).toNat,by omega⟩
  have G:=(List.getElem?_eq_some_iff.1 (Lib.indexByte_some hk).1).1;rw[if_pos h,hk,Int.toNat_natCast];rw[hk]at A;clear h hk;simp only;have B:(str l).extract 0 k=str (l.take k):=ue l k;have D:(str l).extract (k+1) (str l).size=str (l.drop (k+1)):=ud l (k+1) _ hs;rw[←B,←D];have c1:(0:Int)≤(k:Int):=by omega
  have c2:(k:Int)≤((str l).size:Int):=by omega
  have c3:(0:Int)≤(k:Int)+1:=by omega
  have c4:(k:Int)+1≤((str l).size:Int):=by omega
  have c5:((str l).size:Int)≤140737488351232:=by omega
  clear B D;have mixed:Tryz.prog.follows .mixedOrders=true:=by kernel_rfl
  go_enter Tryz.func181,Tryz.ntmps181
  go_wp2_with (go_at_call 208;refine A.mono ?_;rintro e w' ⟨rfl,rfl⟩)
  go_region_o
  go_wp2
  go_ret3
  exact⟨rfl,1,rfl⟩
 ·rw[if_neg h]
  have E:Lib.indexByte l 47=-1:=by have:=Lib.indexByte_ge l 47;omega
  rw[E]at A;clear h E
  go_enter Tryz.func181,Tryz.ntmps181
  go_wp2_with (go_at_call 208;refine A.mono ?_;rintro e w' ⟨rfl,rfl⟩)
  go_ret3
  exact⟨rfl,0,rfl⟩
theorem xq (l:List UInt8) (w:World) (hm:l.length≤140737488351232):
 Calls Tryz.prog 141 #[.string (str l),.string ⟨#[47]⟩] w fun e w'=>e=.returned (.tuple #[.string (str (na l).1),.string (str (na l).2.1),.bool (na l).2.2])∧∃n,w'=w.drewN n:=by
 have hc:=Iy l w hm
 go_enter Tryz.func141,Tryz.ntmps141
 go_wp2_with (go_at_call 181;refine hc.mono ?_;rintro e w' ⟨rfl,n,rfl⟩)
 go_ret3
 exact⟨rfl,n,rfl⟩
end Path
namespace Field
open qd Fp bJ
theorem L7 (x:Int):Ma (some x)=x:=rfl
theorem Lh (x:Int):okO (some x)=true:=rfl
theorem L6:Ma none=0:=rfl
theorem Lg:okO none=false:=rfl
theorem gy (base zero:Int) (p:Option Addr) (n c:Nat) (bs:List UInt8) (w:World) (I7:2≤base) (cf:base≤256) (fQ:0≤zero) (eU:zero+base≤256)
 (hn:bs.length=n) (hm:n≤maxLen) (h:cB w p n bs):
 Calls Tryz.prog 136 #[.int .i64 base,.int .u8 zero,.slice p n c] w fun e w'=>e=.returned (.tuple #[.int .i64 (pb (fj base zero bs 0)),.bool (Li (fj base zero bs 0))])∧Below w.heap.size w w':=by
 unfold maxLen at hm;have D:=Qh hn;have H:=Qh h;clear hn h
 go_enter Tryz.func136,Tryz.ntmps136
 go_wp2
 go_loopw [8,16] (fun s i wr=>∃(k:Nat) (s0:Int),k≤n∧0≤s0∧s0≤4611686018427387904∧i=.int .i64 k∧s=.int .i64 s0∧Hid (fj base zero (bs.drop k) s0=fj base zero bs 0)∧Below w.heap.size w wr) (fun _ i _=>n - (RowKit.intOf i).toNat)
 case atStart=>exact⟨0,0,Nat.zero_le _,by omega,by decide,rfl,rfl,Qh rfl,Below.refl _ _⟩
 case round=>
  obtain⟨k,s0,hk,U,d,rfl,rfl,I,A⟩:=hrel
  by_cases B:k<n
  ·obtain⟨b,o,rfl,Y,hcell⟩:=H.out.cell B
   have hc:=hcell k B;clear hcell;obtain⟨x,J⟩:∃x:Int,x=((bs.getD k 0).toNat:Int):=⟨_,rfl⟩
   rw[←J]at hc;have T:=L5 (bs.getD k 0);rw[←J]at T;have G:=Qh J;clear J;obtain⟨m,l⟩:=T;rw[←A.cell Y]at hc
   by_cases hd:base≤(x - zero) % 256
   ·have E:Hid (fj base zero bs 0=none):=Qh (by
     rw[←I.out];exact pC base zero bs k s0 (by rw[D.out];exact B) (by rw[←G.out];omega))
    go_wp2;go_ret2;rw[E.out];exact⟨rfl,A⟩
   ·have X:zero≤x∧x<zero+base:=by omega
    have O:Hid ((x - zero) % 256=x - zero):=Qh (by omega);have N:0≤x - zero∧x - zero≤255:=by omega
    obtain⟨N,q⟩:=N;have R:0≤s0*base:=Int.mul_nonneg U (by omega)
    by_cases V:s0*base≤4611686018427387904
    ·have L:Hid (nf s0 base=some (s0*base)):=Qh (by rw[nf,if_pos ⟨U,d,by omega,by omega,V⟩])
     go_wp2_with fail
     refine(EZ _ _ _).mono ?_;rintro e f ⟨rfl,rfl⟩;rw[L.out,L7,Lh]
     by_cases W:s0*base+(x - zero)≤4611686018427387904
     ·have M:Hid (lq [s0*base,x - zero] 0=some (s0*base+(x - zero))):=Qh (by rw[uf,if_pos ⟨R,V,N,W⟩])
      go_wp2_with fail
      refine(xj _ _ _).mono ?_;rintro e g ⟨rfl,rfl⟩;rw[M.out,L7,Lh];go_wp2;go_roundw
      case rel=>exact⟨k+1,s0*base+(x - zero),by omega,by omega,W,by go_num,rfl,Qh (by rw[←I.out,Gn base zero bs k s0 (by rw[D.out];exact B) (by rw[←G.out];have:=O.out;omega),←G.out]),A.alloc A.size _⟩
      case measure=>simp[RowKit.intOf];omega
     ·have M:Hid (lq [s0*base,x - zero] 0=none):=Qh (by rw[uf,if_neg (by omega)])
      have E:Hid (fj base zero bs 0=none):=Qh (by
       rw[←I.out];exact pC base zero bs k s0 (by rw[D.out];exact B) (by rw[←G.out];have:=O.out;omega))
      go_wp2_with fail
      refine(xj _ _ _).mono ?_;rintro e g ⟨rfl,rfl⟩;rw[M.out,L6,Lg];go_wp2;go_ret2;rw[E.out];exact⟨rfl,A.alloc A.size _⟩
    ·have L:Hid (nf s0 base=none):=Qh (by rw[nf,if_neg (by omega)])
     have E:Hid (fj base zero bs 0=none):=Qh (by
      rw[←I.out];exact pC base zero bs k s0 (by rw[D.out];exact B) (by rw[←G.out];have:=O.out;omega))
     go_wp2_with fail
     refine(EZ _ _ _).mono ?_;rintro e f ⟨rfl,rfl⟩;rw[L.out,L6,Lg];go_wp2;go_ret2;rw[E.out];exact⟨rfl,A⟩
  ·have Z:Hid (k=n):=Qh (by omega)
   go_wp2;go_ret2;have E:fj base zero bs 0=some s0:=by rw[←I.out,Z.out,←D.out,List.drop_length];rfl
   rw[E];exact⟨rfl,A⟩
theorem rK:(Tryz.prog.info? (Tryz.vP.t 27)).map (fun i=>(i.zero,i.size))=some (some (.agg (Array.replicate 256 (.bool false))),256):=by kernel_rfl
theorem yw (p:Option Addr) (n c:Nat) (bs:List UInt8) (w:World) (hn:bs.length=n) (hc:n≤c) (hm:c≤maxLen) (h:cB w p n bs):
 Calls Tryz.prog 134 #[.slice p n c,.string ⟨#[32]⟩] w fun e w'=>e=.returned (Lib.leftV p n c (n - (Lib.trimLeftS bs [32]).length))∧Below w.heap.size w w':=
 Any.bytes_TrimLeft_ascii Tryz.Uw (zero_of_info rK).1 (zero_of_info rK).2 p n c bs ⟨#[32]⟩ w hn hc (by unfold maxLen at hm;omega) h (by decide) (fun j b A=>by
  match j,A with
  |0,A=>cases A;decide
  |j+1,A=>simp at A)
theorem uX (p:Option Addr) (n c:Nat) (bs:List UInt8) (w:World) (hn:bs.length=n) (hc:n≤c) (hm:c≤maxLen) (h:cB w p n bs):
 Calls Tryz.prog 137 #[.slice p n c,.string ⟨#[32,0]⟩] w fun e w'=>e=.returned (.slice p (Lib.trimRightS bs [32,0]).length c)∧Below w.heap.size w w':=
 Any.bytes_TrimRight_ascii Tryz.Uv (zero_of_info rK).1 (zero_of_info rK).2 p n c bs ⟨#[32,0]⟩ w hn hc (by unfold maxLen at hm;omega) h (by decide) (fun j b A=>by
  match j,A with
  |0,A=>cases A;decide
  |1,A=>cases A;decide
  |j+2,A=>simp at A)
theorem qF (l cs:List UInt8):(Lib.trimLeftS l cs).length≤l.length∧l.drop (l.length - (Lib.trimLeftS l cs).length)=Lib.trimLeftS l cs:=by
 have h:Lib.trimLeftS l cs<:+l:=List.dropWhile_suffix _;exact⟨h.length_le,(List.suffix_iff_eq_drop.1 h).symm⟩
theorem je {w:World} {p:Option Addr} {n c:Nat} {bs:List UInt8} (h:cB w p n bs) (hn:bs.length=n) (hc:n≤c):
 ∃p' c',Lib.leftV p n c (n - (Lib.trimLeftS bs [32]).length)=.slice p' (Lib.trimLeftS bs [32]).length c'∧(Lib.trimLeftS bs [32]).length≤c'∧c'≤c∧cB w p' (Lib.trimLeftS bs [32]).length (Lib.trimLeftS bs [32]):=by
 obtain⟨h1,D⟩:=qF bs [32]
 by_cases B:(Lib.trimLeftS bs [32]).length=0
 ·refine⟨none,0,?_,by omega,by omega,fun E=>by omega⟩
  unfold Lib.leftV;rw[B]
  by_cases A:n=0
  ·subst A;rfl
  ·rw[if_pos (by omega)]
 ·refine⟨if c=n - (Lib.trimLeftS bs [32]).length then p else p.map (fun x=>x.add (n - (Lib.trimLeftS bs [32]).length)),c - (n - (Lib.trimLeftS bs [32]).length),?_,by omega,by omega,?_⟩
  ·unfold Lib.leftV Lib.fromV
   rw[if_neg (by omega),show n - (n - (Lib.trimLeftS bs [32]).length)=(Lib.trimLeftS bs [32]).length by omega]
  ·have:=h.drop (k:=n - (Lib.trimLeftS bs [32]).length) (by omega) hc hn
   rw[show n - (n - (Lib.trimLeftS bs [32]).length)=(Lib.trimLeftS bs [32]).length by omega]at this;rw[show bs.drop (n - (Lib.trimLeftS bs [32]).length)=Lib.trimLeftS bs [32] by rw[←hn];exact D]at this;exact this
theorem we (p:Option Addr) (n c:Nat) (bs:List UInt8) (w:World) (hn:bs.length=n) (hc:n≤c) (hm:c≤maxLen) (h:cB w p n bs):
 Calls Tryz.prog 102 #[.slice p n c] w fun e w'=>e=.returned (.tuple #[.int .i64 (pb (bp bs)),.bool (Li (bp bs))])∧Below w.heap.size w w':=by
 have U:=hm;unfold maxLen at U
 by_cases h0:n=0
 ·subst h0
  obtain rfl:bs=[]:=List.eq_nil_of_length_eq_zero hn;clear hn h
  go_enter Tryz.func102,Tryz.ntmps102
  go_wp2;go_ret2;exact⟨rfl,Below.refl _ _⟩
 ·obtain⟨b,o,rfl,j0,hcell⟩:=h.cell (k:=0) (by omega)
  have V:=hcell 0 (by omega)
  obtain⟨x,l,rfl⟩:∃x l,bs=x::l:=by cases bs with
   |nil=>simp at hn;omega
   |cons x l=>exact⟨x,l,rfl⟩
  have V:w.cell? ⟨b,o,none⟩=some (.int .u8 x.toNat):=V;have I:=Qh hn;have H:=Qh h;clear hn h hcell;have Ud:((n:Int)==0)=false:=by simp;omega
  obtain⟨y,hy⟩:∃y:Int,y=(x.toNat:Int):=⟨_,rfl⟩
  rw[←hy]at V;have Y:=Qh hy;clear hy
  by_cases B:y=128
  ·have Tz:(y==128)=true:=by simpa using B
   have hl:l.length=n - 1:=by have:=I.out;simp at this;omega
   have E:Hid (bp (x::l)=fj 256 0 l 0):=Qh (by rw[bp,if_pos (by rw[←Y.out];exact B)])
   have T:Hid (cB w (if c=1 then some ⟨b,o,none⟩else some ⟨b,o+1,none⟩) (n - 1) l):=Qh (fun hh=>by
    obtain⟨b',o',e,z⟩:=H.out (by omega)
    cases e
    rw[if_neg (by omega)];refine⟨b,o+1,rfl,fun i hi=>?_⟩;rw[Nat.add_assoc,z (1+i) (by omega),Nat.add_comm 1 i]
    rfl)
   have X:=Qh hl;have aa1:=Qh B;clear hl B
   by_cases f:c=1
   ·have A:=T.out
    rw[if_pos f]at A;have M:=Qh A;clear A
    go_enter Tryz.func102,Tryz.ntmps102
    go_wp2_with fail
    refine(gy 256 0 _ (n - 1) _ l w (by omega) (by omega) (by omega) (by omega) X.out (by unfold maxLen;omega) M.out).mono ?_;rintro e w' ⟨rfl,R⟩;go_wp2;go_ret2;rw[E.out];exact⟨rfl,R⟩
   ·have A:=T.out
    rw[if_neg f]at A;have M:=Qh A;clear A
    go_enter Tryz.func102,Tryz.ntmps102
    go_wp2_with fail
    refine(gy 256 0 _ (n - 1) _ l w (by omega) (by omega) (by omega) (by omega) X.out (by unfold maxLen;omega) M.out).mono ?_;rintro e w' ⟨rfl,R⟩;go_wp2;go_ret2;rw[E.out];exact⟨rfl,R⟩
  ·have Tz:(y==128)=false:=by simpa using B
   have E:Hid (bp (x::l)=fj 8 48 (Lib.trimRightS (Lib.trimLeftS (x::l) [32]) [32,0]) 0):=Qh (by rw[bp,if_neg (by rw[←Y.out];exact B)]);obtain⟨J,d,q,Z,Xx,r⟩:=je H.out I.out hc;have t:=Qh q;have W:=Qh r;clear q r;have u:(Lib.trimLeftS (x::l) [32]).length≤n:=by have:=(qF (x::l) [32]).1;rw[I.out]at this;exact this
   obtain⟨k,hk⟩:∃k,k=(Lib.trimLeftS (x::l) [32]).length:=⟨_,rfl⟩
   obtain⟨m,N⟩:∃m,m=(Lib.trimRightS (Lib.trimLeftS (x::l) [32]) [32,0]).length:=⟨_,rfl⟩
   have Sj:m≤k:=by
    rw[N,hk];exact Lib.trimRightS_len_le _ _
   have G:=Qh hk;have L:=Qh N;rw[←hk]at u Z;clear hk N
   go_enter Tryz.func102,Tryz.ntmps102
   go_wp2_with fail
   refine(yw _ n c (x::l) w I.out hc hm H.out).mono ?_;rintro e w1 ⟨rfl,D⟩;rw[t.out,←G.out];go_wp2_with fail;refine(uX J k d _ w1 G.out.symm Z (by omega) ((show cB w J k _ by rw[G.out];exact W.out).below D)).mono ?_;rintro e w2 ⟨rfl,O⟩;rw[←L.out];go_wp2_with fail
   refine(gy 8 48 J m d (Lib.trimRightS (Lib.trimLeftS (x::l) [32]) [32,0]) w2 (by omega) (by omega) (by omega) (by omega) L.out.symm (by unfold maxLen;omega)
    (by
     have h1:=((show cB w J k _ by rw[G.out];exact W.out).take Sj).below (D.trans (O.mono D.size));have g:=Lib.trimRightS_eq_take (Lib.trimLeftS (x::l) [32]) [32,0];rw[←L.out]at g;rw[g]
     exact h1)).mono ?_
   rintro e w3 ⟨rfl,fr⟩;go_wp2;go_ret2;rw[E.out];exact⟨rfl,(D.trans (O.mono D.size)).trans (fr.mono (Nat.le_trans D.size O.size))⟩
end Field
end Go.Proofs.YtdhibldkldlfpaaGreatDoor
