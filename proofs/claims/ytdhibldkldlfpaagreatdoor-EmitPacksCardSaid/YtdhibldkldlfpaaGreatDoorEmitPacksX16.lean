/- Merged. -/
import Derived.Test.YtdhibldkldlfpaaGreatDoorEmitPacksX11
import Derived.OpenShut
import Derived.ShutString
import Derived.Test.YtdhibldkldlfpaaGreatDoorEmitPacksX5
import Derived.Test.YtdhibldkldlfpaaGreatDoorEmitPacksX2
import Derived.Test.YtdhibldkldlfpaaGreatDoorEmitPacksX9
namespace Go.Proofs.YtdhibldkldlfpaaGreatDoor
namespace rr
end rr
set_option linter.unusedVariables false
set_option maxHeartbeats 800000
set_option maxRecDepth 100000
open Go.ChangeShapes Go.WideShapes Go.ChangeAt Go.RowKit Base
namespace rr
variable {l m n:Int}
def MV (n l m:Int):Bool:=decide (l≤n∧n≤m)
theorem gN (h1:l≤n) (h2:n≤m):MV n l m=true:=by simp[MV,h1,h2]
theorem jR (h:¬(l≤n∧n≤m)):MV n l m=false:=by simp only[MV,decide_eq_false_iff_not];exact h
theorem eW (n l m:Int) (w:World) (h1:l≤n) (h2:n≤m):
 Calls Tryz.prog 152 #[.int .i64 n,.int .i64 l,.int .i64 m] w fun e w'=>e=.returned (.bool true)∧w=w':=by
 go_enter Tryz.func152,Tryz.ntmps152
 go_wp2;go_ret;exact⟨rfl,rfl⟩
theorem j6 (n l m:Int) (w:World) (h:¬(l≤n∧n≤m)):
 Calls Tryz.prog 152 #[.int .i64 n,.int .i64 l,.int .i64 m] w fun e w'=>e=.returned (.bool false)∧w=w':=by
 by_cases h1:l≤n
 ·have A:¬n≤m:=fun A=>h ⟨h1,A⟩
  clear h
  go_enter Tryz.func152,Tryz.ntmps152
  go_wp2;go_ret;exact⟨rfl,rfl⟩
 ·clear h
  go_enter Tryz.func152,Tryz.ntmps152
  go_wp2;go_ret;exact⟨rfl,rfl⟩
theorem mh (n l m:Int) (w:World):
 Calls Tryz.prog 152 #[.int .i64 n,.int .i64 l,.int .i64 m] w fun e w'=>e=.returned (.bool (MV n l m))∧w=w':=by
 by_cases h:l≤n∧n≤m
 ·rw[gN h.1 h.2];exact eW n l m w h.1 h.2
 ·rw[jR h];exact j6 n l m w h
def mS:List Int→Int→Option Int
 |[],s=>some s
 |x::l,s=>if 0≤x∧x≤4611686018427387904 - s then mS l (s+x)else none
def Qu:Option Int→Int
 |some s=>s
 |none=>0
def okO:Option Int→Bool
 |some _=>true
 |none=>false
theorem drop_cons (zs:List Int) (k:Nat) (h:k<zs.length):zs.drop k=zs.getD k 0::zs.drop (k+1):=by
 rw[List.drop_eq_getElem_cons h];simp[List.getD,h]
theorem Ml (zs:List Int) (k:Nat) (s:Int) (h:k<zs.length) (h0:0≤zs.getD k 0) (h1:zs.getD k 0≤4611686018427387904 - s):
 mS (zs.drop k) s=mS (zs.drop (k+1)) (s+zs.getD k 0):=by
 rw[drop_cons zs k h,mS,if_pos ⟨h0,h1⟩]
theorem Mm (zs:List Int) (k:Nat) (s:Int) (h:k<zs.length) (h0:¬(0≤zs.getD k 0∧zs.getD k 0≤4611686018427387904 - s)):
 mS (zs.drop k) s=none:=by
 rw[drop_cons zs k h,mS,if_neg h0]
theorem Ns (b off len cap:Nat) (zs:List Int) (w:World) (hl:zs.length=len) (hm:len≤maxLen)
 (hc:∀i,i<len→w.cell? ⟨b,off+i,none⟩=some (.int .i64 (zs.getD i 0))):
 Calls Tryz.prog 162 #[.slice (some ⟨b,off,none⟩) len cap] w fun e w'=>e=.returned (.tuple #[.int .i64 (Qu (mS zs 0)),.bool (okO (mS zs 0))])∧w=w':=by
 unfold maxLen at hm;have B:Hid (zs.length=len):=hl;have HC:Hid (∀i,i<len→w.cell? ⟨b,off+i,none⟩=some (.int .i64 (zs.getD i 0))):=hc;clear hl hc
 go_enter Tryz.func162,Tryz.ntmps162
 go_wp2
 go_loop [4,9] (fun t i=>∃(k:Nat) (s:Int),k≤len∧0≤s∧s≤4611686018427387904∧i=.int .i64 k∧t=.int .i64 s∧Hid (mS (zs.drop k) s=mS zs 0)) (fun _ i=>len - (RowKit.intOf i).toNat)
 case atStart=>exact⟨0,0,Nat.zero_le _,by omega,by decide,rfl,rfl,rfl⟩
 case round=>
  obtain⟨k,s,hk,M,N,rfl,rfl,G⟩:=hrel
  by_cases D:k<len
  ·have hcell:=HC.out k D
   obtain⟨z,H⟩:∃z,z=zs.getD k 0:=⟨_,rfl⟩
   rw[←H]at hcell;have A:Hid (z=zs.getD k 0):=H;clear H
   by_cases I:0≤z∧z≤4611686018427387904 - s
   ·obtain⟨L,h1⟩:=I
    go_wp2_with (go_at_call 152;refine(eW _ _ _ _ (by omega) (by omega)).mono ?_;rintro e w' ⟨rfl,rfl⟩)
    go_round
    case rel=>exact⟨k+1,s+z,by omega,by omega,by omega,by go_num,rfl,Qh (by rw[←G.out,Ml zs k s (by rw[B.out];exact D) (by rw[←A.out];exact L) (by rw[←A.out];exact h1),←A.out])⟩
    case measure=>simp[RowKit.intOf];omega
   ·go_wp2_with (go_at_call 152;refine(j6 _ _ _ _ I).mono ?_;rintro e w' ⟨rfl,rfl⟩)
    go_ret2;have E:mS zs 0=none:=by rw[←G.out];exact Mm zs k s (by rw[B.out];exact D) (by rw[←A.out];exact I)
    rw[E];exact⟨rfl,rfl⟩
  ·have J:Hid (k=len):=Qh (by omega)
   go_wp2;go_ret2;have E:mS zs 0=some s:=by rw[←G.out,J.out,←B.out,List.drop_length];rfl
   rw[E];exact⟨rfl,rfl⟩
theorem AG (n:Int) (w:World) (h1:0≤n) (h2:n≤4611686018427387904):
 Calls Tryz.prog 166 #[.int .i64 n] w fun e w'=>e=.returned (.bool true)∧w=w':=by
 go_enter Tryz.func166,Tryz.ntmps166
 go_wp2;go_ret;exact⟨rfl,rfl⟩
theorem Wl (n:Int) (w:World) (h:¬(0≤n∧n≤4611686018427387904)):
 Calls Tryz.prog 166 #[.int .i64 n] w fun e w'=>e=.returned (.bool false)∧w=w':=by
 by_cases h1:0≤n
 ·have A:¬n≤4611686018427387904:=fun A=>h ⟨h1,A⟩
  clear h
  go_enter Tryz.func166,Tryz.ntmps166
  go_wp2;go_ret;exact⟨rfl,rfl⟩
 ·clear h
  go_enter Tryz.func166,Tryz.ntmps166
  go_wp2;go_ret;exact⟨rfl,rfl⟩
theorem xj (a b:Int):mS [a,b] 0=if 0≤a∧a≤4611686018427387904∧0≤b∧a+b≤4611686018427387904 then some (a+b)else none:=by
 simp only[mS]
 by_cases h:0≤a∧a≤4611686018427387904 - 0
 ·rw[if_pos h]
  by_cases A:0≤b∧b≤4611686018427387904 - (0+a)
  ·rw[if_pos A,if_pos (by omega),Int.zero_add]
  ·rw[if_neg A,if_neg (by omega)]
 ·rw[if_neg h,if_neg (by omega)]
theorem zJ (a b:Int) (w:World):
 Calls Tryz.prog 162 #[.slice (some ⟨w.heap.size,0,none⟩) 2 2] (w.alloc (.cells #[.int .i64 a,.int .i64 b] 3)) fun e w'=>e=.returned (.tuple #[.int .i64 (Qu (mS [a,b] 0)),.bool (okO (mS [a,b] 0))])∧w.alloc (.cells #[.int .i64 a,.int .i64 b] 3)=w':=
 Ns _ _ 2 2 [a,b] _ rfl (by decide) (fun i hi=>by
  match i,hi with
  |0,_=>simp
  |1,_=>simp)
def AK (n:Int):Int:=if 0≤n∧n≤4611686018427387904 then(if n % 512=0 then n else n+(512 - n % 512))else 0
theorem I0 (n:Int) (w:World):
 Calls Tryz.prog 128 #[.int .i64 n] w fun e w'=>e=.returned (.tuple #[.int .i64 (AK n),.bool (MV n 0 4611686018427387904)])∧Below w.heap.size w w':=by
 by_cases h:0≤n∧n≤4611686018427387904
 ·obtain⟨D,h1⟩:=h
  by_cases A:n % 512=0
  ·have B:Hid (AK n=n):=Qh (by rw[AK,if_pos ⟨D,h1⟩,if_pos A])
   have G:(n % 512==0)=true:=by simpa using A
   have E:=Qh A;clear A
   go_enter Tryz.func128,Tryz.ntmps128
   go_wp2_with (go_at_call 152;refine(eW _ _ _ _ (by omega) (by omega)).mono ?_;rintro e w' ⟨rfl,rfl⟩)
   go_ret2;rw[B.out,gN D h1];exact⟨rfl,Below.refl _ _⟩
  ·have B:Hid (AK n=n+(512 - n % 512)):=Qh (by rw[AK,if_pos ⟨D,h1⟩,if_neg A])
   have G:(n % 512==0)=false:=by simpa using A
   have E:=Qh A;clear A
   go_enter Tryz.func128,Tryz.ntmps128
   go_wp2_with (go_at_call 152;refine(eW _ _ _ _ (by omega) (by omega)).mono ?_;rintro e w' ⟨rfl,rfl⟩)
   refine(zJ n (512 - n % 512) _).mono ?_;rintro e w' ⟨rfl,rfl⟩;rw[xj,if_pos (by have:=E.out;omega)];go_wp2;go_ret2;rw[B.out,gN D h1];exact⟨rfl,(Below.refl _ _).alloc (Qk _) _⟩
 ·have B:Hid (AK n=0):=Qh (by rw[AK,if_neg h])
  go_enter Tryz.func128,Tryz.ntmps128
  go_wp2_with (go_at_call 152;refine(j6 _ _ _ _ h).mono ?_;rintro e w' ⟨rfl,rfl⟩)
  go_ret2;rw[B.out,jR h];exact⟨rfl,Below.refl _ _⟩
def oZ (a b:Int):Option Int:=if 0≤a∧a≤4611686018427387904∧0≤b∧b≤4611686018427387904∧a*b≤4611686018427387904 then some (a*b)else none
theorem NI (a b:Int) (h:0<a):4611686018427387904 / a<b↔4611686018427387904<a*b:=by
 rw[Int.ediv_lt_iff_lt_mul h,Int.mul_comm]
theorem IQ (a b:Int) (w:World):
 Calls Tryz.prog 172 #[.int .i64 a,.int .i64 b] w fun e w'=>e=.returned (.tuple #[.int .i64 (Qu (oZ a b)),.bool (okO (oZ a b))])∧w=w':=by
 by_cases h:0≤a∧a≤4611686018427387904
 ·obtain⟨B,h1⟩:=h
  by_cases A:0≤b∧b≤4611686018427387904
  ·obtain⟨A,D⟩:=A
   by_cases G:0<a
   ·by_cases H:4611686018427387904 / a<b
    ·have E:Hid (oZ a b=none):=Qh (by rw[oZ,if_neg];intro L;have:=(NI a b G).1 H;omega)
     go_enter Tryz.func172,Tryz.ntmps172
     go_wp2_with (go_at_call 152;refine(eW _ _ _ _ (by omega) (by omega)).mono ?_;rintro e w' ⟨rfl,rfl⟩)
     go_ret2;rw[E.out];exact⟨rfl,rfl⟩
    ·have I:a*b≤4611686018427387904:=by have:=mt (NI a b G).2 H;omega
     have J:0≤a*b:=Int.mul_nonneg B A;have E:Hid (oZ a b=some (a*b)):=Qh (by rw[oZ,if_pos ⟨B,h1,A,D,I⟩])
     go_enter Tryz.func172,Tryz.ntmps172
     go_wp2_with (go_at_call 152;refine(eW _ _ _ _ (by omega) (by omega)).mono ?_;rintro e w' ⟨rfl,rfl⟩)
     go_ret2;rw[E.out];exact⟨rfl,rfl⟩
   ·obtain rfl:a=0:=by omega
    have E:Hid (oZ 0 b=some 0):=Qh (by rw[oZ,if_pos ⟨B,h1,A,D,by omega⟩,Int.zero_mul])
    go_enter Tryz.func172,Tryz.ntmps172
    go_wp2_with (go_at_call 152;refine(eW _ _ _ _ (by omega) (by omega)).mono ?_;rintro e w' ⟨rfl,rfl⟩)
    go_ret2;rw[E.out];exact⟨rfl,rfl⟩
  ·have E:Hid (oZ a b=none):=Qh (by rw[oZ,if_neg (by omega)])
   go_enter Tryz.func172,Tryz.ntmps172
   go_wp2_with (go_at_call 152;first|(refine(eW _ _ _ _ (by omega) (by omega)).mono ?_;rintro e w' ⟨rfl,rfl⟩)|(refine(j6 _ _ _ _ A).mono ?_;rintro e w' ⟨rfl,rfl⟩))
   go_ret2;rw[E.out];exact⟨rfl,rfl⟩
 ·have E:Hid (oZ a b=none):=Qh (by rw[oZ,if_neg (by omega)])
  go_enter Tryz.func172,Tryz.ntmps172
  go_wp2_with (go_at_call 152;refine(j6 _ _ _ _ h).mono ?_;rintro e w' ⟨rfl,rfl⟩)
  go_ret2;rw[E.out];exact⟨rfl,rfl⟩
end rr
namespace Path
open Go.Shelf cf cN Go.Lib
theorem OO (c p:List UInt8) (w:World) (hm:c.length+p.length≤140737488351500):
 Calls Tryz.prog 151 #[.string (str c),.string (str p)] w fun e w'=>e=.returned (.string (str (cg c p)))∧w=w':=by
 have hs:(str c).size+1+(str p).size≤9223372036854775807:=by rw[ak,ak];omega
 have H:(str c).size+1≤9223372036854775807:=by omega
 clear hm
 by_cases h1:p=[]
 ·have e:str (cg c p)=str c:=by unfold cg;rw[if_pos (.inl h1)]
  have D:(str p).toList.isEmpty=true:=by rw[bk];simpa using h1
  rw[e];clear e h1
  go_enter Tryz.func151,Tryz.ntmps151
  go_wp2;go_ret;exact⟨rfl,rfl⟩
 ·have D:(str p).toList.isEmpty=false:=by rw[bk];simpa using h1
  by_cases A:p=[46]
  ·have e:str (cg c p)=str c:=by unfold cg;rw[if_pos (.inr A)]
   have E:((str p).toList==[46])=true:=by rw[jq];simpa using A
   rw[e];clear e h1 A
   go_enter Tryz.func151,Tryz.ntmps151
   go_wp2;go_ret;exact⟨rfl,rfl⟩
  ·have E:((str p).toList==[46])=false:=by rw[jq];simpa using A
   by_cases B:c=[]
   ·have e:str (cg c p)=str p:=by unfold cg;rw[if_neg (by simp[h1,A]),if_pos B]
    have G:(str c).toList.isEmpty=true:=by rw[bk];simpa using B
    rw[e];clear e h1 A B
    go_enter Tryz.func151,Tryz.ntmps151
    go_wp2;go_ret;exact⟨rfl,rfl⟩
   ·have e:str c++⟨#[47]⟩++str p=str (cg c p):=by
     unfold cg;rw[if_neg (by simp[h1,A]),if_neg B,show(⟨#[47]⟩:ByteArray)=str [47]from rfl,cL,cL];simp
    have G:(str c).toList.isEmpty=false:=by rw[bk];simpa using B
    rw[←e];clear e h1 A B
    go_enter Tryz.func151,Tryz.ntmps151
    go_wp2;go_ret;exact⟨rfl,rfl⟩
theorem qB (a b:List UInt8) (w:World):
 Calls Tryz.prog 45 #[.string (str a),.string (str b)] w fun e w'=>e=.returned (.bool (Op.bytesLess a b))∧w=w':=by
 rw[show Op.bytesLess a b=Op.bytesLess (str a).toList (str b).toList by rw[av,av]]
 go_enter Tryz.func45,Tryz.ntmps45
 go_wp2;go_ret;exact⟨rfl,rfl⟩
def oV (l:List UInt8):List UInt8 × List UInt8 × Bool:=
 if 0≤Lib.indexByte l 47 then(l.take (Lib.indexByte l 47).toNat,l.drop ((Lib.indexByte l 47).toNat+1),true)else(l,[],false)
theorem Me (l:List UInt8) (w:World) (hm:l.length≤140737488351232):
 Calls Tryz.prog 181 #[.string (str l),.string ⟨#[47]⟩] w fun e w'=>e=.returned (.tuple #[.string (str (oV l).1),.string (str (oV l).2.1),.bool (oV l).2.2])∧∃n,w'=w.drewN n:=by
 have A:=Any.stringslite_Index_one Tryz.rO (str l) 47 w;rw[aU]at A;have hs:(str l).size=l.length:=ak l;unfold oV
 by_cases h:0≤Lib.indexByte l 47
 ·obtain⟨k,hk⟩:∃k:Nat,Lib.indexByte l 47=k:=⟨(Lib.indexByte l 47).toNat,by omega⟩
  have G:=(List.getElem?_eq_some_iff.1 (Lib.indexByte_some hk).1).1;rw[if_pos h,hk,Int.toNat_natCast];rw[hk]at A;clear h hk;simp only;have B:(str l).extract 0 k=str (l.take k):=xh l k;have D:(str l).extract (k+1) (str l).size=str (l.drop (k+1)):=xg l (k+1) _ hs;rw[←B,←D];have c1:(0:Int)≤(k:Int):=by omega
  have c2:(k:Int)≤((str l).size:Int):=by omega
  have c3:(0:Int)≤(k:Int)+1:=by omega
  have c4:(k:Int)+1≤((str l).size:Int):=by omega
  have c5:((str l).size:Int)≤140737488351232:=by omega
  clear B D;have mixed:Tryz.prog.follows .mixedOrders=true:=by kernel_rfl
  go_enter Tryz.func181,Tryz.ntmps181
  go_wp2_with (go_at_call 208;refine A.mono ?_;rintro e w' ⟨rfl,rfl⟩)
  go_region_o
  go_wp2
  go_ret3
  exact⟨rfl,1,rfl⟩
 ·rw[if_neg h]
  have E:Lib.indexByte l 47=-1:=by have:=Lib.indexByte_ge l 47;omega
  rw[E]at A;clear h E
  go_enter Tryz.func181,Tryz.ntmps181
  go_wp2_with (go_at_call 208;refine A.mono ?_;rintro e w' ⟨rfl,rfl⟩)
  go_ret3
  exact⟨rfl,0,rfl⟩
theorem zP (l:List UInt8) (w:World) (hm:l.length≤140737488351232):
 Calls Tryz.prog 141 #[.string (str l),.string ⟨#[47]⟩] w fun e w'=>e=.returned (.tuple #[.string (str (oV l).1),.string (str (oV l).2.1),.bool (oV l).2.2])∧∃n,w'=w.drewN n:=by
 have hc:=Me l w hm
 go_enter Tryz.func141,Tryz.ntmps141
 go_wp2_with (go_at_call 181;refine hc.mono ?_;rintro e w' ⟨rfl,n,rfl⟩)
 go_ret3
 exact⟨rfl,n,rfl⟩
end Path
namespace Field
open rr Fp cf
theorem Qt (x:Int):Qu (some x)=x:=rfl
theorem Pv (x:Int):okO (some x)=true:=rfl
theorem Qs:Qu none=0:=rfl
theorem Pt:okO none=false:=rfl
theorem iC (base zero:Int) (p:Option Addr) (n c:Nat) (bs:List UInt8) (w:World) (D0:2≤base) (ck:base≤256) (eo:0≤zero) (dH:zero+base≤256)
 (hn:bs.length=n) (hm:n≤maxLen) (h:cK w p n bs):
 Calls Tryz.prog 136 #[.int .i64 base,.int .u8 zero,.slice p n c] w fun e w'=>e=.returned (.tuple #[.int .i64 (qZ (fZ base zero bs 0)),.bool (Pw (fZ base zero bs 0))])∧Below w.heap.size w w':=by
 unfold maxLen at hm;have G:=Qh hn;have H:=Qh h;clear hn h
 go_enter Tryz.func136,Tryz.ntmps136
 go_wp2
 go_loopw [8,16] (fun s i wr=>∃(k:Nat) (s0:Int),k≤n∧0≤s0∧s0≤4611686018427387904∧i=.int .i64 k∧s=.int .i64 s0∧Hid (fZ base zero (bs.drop k) s0=fZ base zero bs 0)∧Below w.heap.size w wr) (fun _ i _=>n - (RowKit.intOf i).toNat)
 case atStart=>exact⟨0,0,Nat.zero_le _,by omega,by decide,rfl,rfl,Qh rfl,Below.refl _ _⟩
 case round=>
  obtain⟨k,s0,hk,U,d,rfl,rfl,J,A⟩:=hrel
  by_cases D:k<n
  ·obtain⟨b,o,rfl,Z,hcell⟩:=H.out.cell D
   have hc:=hcell k D;clear hcell;obtain⟨x,L⟩:∃x:Int,x=((bs.getD k 0).toNat:Int):=⟨_,rfl⟩
   rw[←L]at hc;have T:=zy (bs.getD k 0);rw[←L]at T;have I:=Qh L;clear L;obtain⟨l,q⟩:=T;rw[←A.cell Z]at hc
   by_cases hd:base≤(x - zero) % 256
   ·have E:Hid (fZ base zero bs 0=none):=Qh (by
     rw[←J.out];exact rE base zero bs k s0 (by rw[G.out];exact D) (by rw[←I.out];omega))
    go_wp2;go_ret2;rw[E.out];exact⟨rfl,A⟩
   ·have Y:zero≤x∧x<zero+base:=by omega
    have B:Hid ((x - zero) % 256=x - zero):=Qh (by omega);have O:0≤x - zero∧x - zero≤255:=by omega
    obtain⟨O,m⟩:=O;have R:0≤s0*base:=Int.mul_nonneg U (by omega)
    by_cases V:s0*base≤4611686018427387904
    ·have M:Hid (oZ s0 base=some (s0*base)):=Qh (by rw[oZ,if_pos ⟨U,d,by omega,by omega,V⟩])
     go_wp2_with fail
     refine(IQ _ _ _).mono ?_;rintro e f ⟨rfl,rfl⟩;rw[M.out,Qt,Pv]
     by_cases W:s0*base+(x - zero)≤4611686018427387904
     ·have N:Hid (mS [s0*base,x - zero] 0=some (s0*base+(x - zero))):=Qh (by rw[xj,if_pos ⟨R,V,O,W⟩])
      go_wp2_with fail
      refine(zJ _ _ _).mono ?_;rintro e g ⟨rfl,rfl⟩;rw[N.out,Qt,Pv];go_wp2;go_roundw
      case rel=>exact⟨k+1,s0*base+(x - zero),by omega,by omega,W,by go_num,rfl,Qh (by rw[←J.out,Kh base zero bs k s0 (by rw[G.out];exact D) (by rw[←I.out];have:=B.out;omega),←I.out]),A.alloc A.size _⟩
      case measure=>simp[RowKit.intOf];omega
     ·have N:Hid (mS [s0*base,x - zero] 0=none):=Qh (by rw[xj,if_neg (by omega)])
      have E:Hid (fZ base zero bs 0=none):=Qh (by
       rw[←J.out];exact rE base zero bs k s0 (by rw[G.out];exact D) (by rw[←I.out];have:=B.out;omega))
      go_wp2_with fail
      refine(zJ _ _ _).mono ?_;rintro e g ⟨rfl,rfl⟩;rw[N.out,Qs,Pt];go_wp2;go_ret2;rw[E.out];exact⟨rfl,A.alloc A.size _⟩
    ·have M:Hid (oZ s0 base=none):=Qh (by rw[oZ,if_neg (by omega)])
     have E:Hid (fZ base zero bs 0=none):=Qh (by
      rw[←J.out];exact rE base zero bs k s0 (by rw[G.out];exact D) (by rw[←I.out];have:=B.out;omega))
     go_wp2_with fail
     refine(IQ _ _ _).mono ?_;rintro e f ⟨rfl,rfl⟩;rw[M.out,Qs,Pt];go_wp2;go_ret2;rw[E.out];exact⟨rfl,A⟩
  ·have X:Hid (k=n):=Qh (by omega)
   go_wp2;go_ret2;have E:fZ base zero bs 0=some s0:=by rw[←J.out,X.out,←G.out,List.drop_length];rfl
   rw[E];exact⟨rfl,A⟩
theorem uk:(Tryz.prog.info? (Tryz.yO.t 27)).map (fun i=>(i.zero,i.size))=some (some (.agg (Array.replicate 256 (.bool false))),256):=by kernel_rfl
theorem A9 (p:Option Addr) (n c:Nat) (bs:List UInt8) (w:World) (hn:bs.length=n) (hc:n≤c) (hm:c≤maxLen) (h:cK w p n bs):
 Calls Tryz.prog 134 #[.slice p n c,.string ⟨#[32]⟩] w fun e w'=>e=.returned (Lib.leftV p n c (n - (Lib.trimLeftS bs [32]).length))∧Below w.heap.size w w':=
 Any.bytes_TrimLeft_ascii Tryz.ZR (zero_of_info uk).1 (zero_of_info uk).2 p n c bs ⟨#[32]⟩ w hn hc (by unfold maxLen at hm;omega) h (by decide) (fun j b A=>by
  match j,A with
  |0,A=>cases A;decide
  |j+1,A=>simp at A)
theorem ya (p:Option Addr) (n c:Nat) (bs:List UInt8) (w:World) (hn:bs.length=n) (hc:n≤c) (hm:c≤maxLen) (h:cK w p n bs):
 Calls Tryz.prog 137 #[.slice p n c,.string ⟨#[32,0]⟩] w fun e w'=>e=.returned (.slice p (Lib.trimRightS bs [32,0]).length c)∧Below w.heap.size w w':=
 Any.bytes_TrimRight_ascii Tryz.ZQ (zero_of_info uk).1 (zero_of_info uk).2 p n c bs ⟨#[32,0]⟩ w hn hc (by unfold maxLen at hm;omega) h (by decide) (fun j b A=>by
  match j,A with
  |0,A=>cases A;decide
  |1,A=>cases A;decide
  |j+2,A=>simp at A)
theorem tc (l cs:List UInt8):(Lib.trimLeftS l cs).length≤l.length∧l.drop (l.length - (Lib.trimLeftS l cs).length)=Lib.trimLeftS l cs:=by
 have h:Lib.trimLeftS l cs<:+l:=List.dropWhile_suffix _;exact⟨h.length_le,(List.suffix_iff_eq_drop.1 h).symm⟩
theorem j9 {w:World} {p:Option Addr} {n c:Nat} {bs:List UInt8} (h:cK w p n bs) (hn:bs.length=n) (hc:n≤c):
 ∃p' c',Lib.leftV p n c (n - (Lib.trimLeftS bs [32]).length)=.slice p' (Lib.trimLeftS bs [32]).length c'∧(Lib.trimLeftS bs [32]).length≤c'∧c'≤c∧cK w p' (Lib.trimLeftS bs [32]).length (Lib.trimLeftS bs [32]):=by
 obtain⟨h1,D⟩:=tc bs [32]
 by_cases B:(Lib.trimLeftS bs [32]).length=0
 ·refine⟨none,0,?_,by omega,by omega,fun E=>by omega⟩
  unfold Lib.leftV;rw[B]
  by_cases A:n=0
  ·subst A;rfl
  ·rw[if_pos (by omega)]
 ·refine⟨if c=n - (Lib.trimLeftS bs [32]).length then p else p.map (fun x=>x.add (n - (Lib.trimLeftS bs [32]).length)),c - (n - (Lib.trimLeftS bs [32]).length),?_,by omega,by omega,?_⟩
  ·unfold Lib.leftV Lib.fromV
   rw[if_neg (by omega),show n - (n - (Lib.trimLeftS bs [32]).length)=(Lib.trimLeftS bs [32]).length by omega]
  ·have:=h.drop (k:=n - (Lib.trimLeftS bs [32]).length) (by omega) hc hn
   rw[show n - (n - (Lib.trimLeftS bs [32]).length)=(Lib.trimLeftS bs [32]).length by omega]at this;rw[show bs.drop (n - (Lib.trimLeftS bs [32]).length)=Lib.trimLeftS bs [32] by rw[←hn];exact D]at this;exact this
theorem yY (p:Option Addr) (n c:Nat) (bs:List UInt8) (w:World) (hn:bs.length=n) (hc:n≤c) (hm:c≤maxLen) (h:cK w p n bs):
 Calls Tryz.prog 102 #[.slice p n c] w fun e w'=>e=.returned (.tuple #[.int .i64 (qZ (bM bs)),.bool (Pw (bM bs))])∧Below w.heap.size w w':=by
 have U:=hm;unfold maxLen at U
 by_cases h0:n=0
 ·subst h0
  obtain rfl:bs=[]:=List.eq_nil_of_length_eq_zero hn;clear hn h
  go_enter Tryz.func102,Tryz.ntmps102
  go_wp2;go_ret2;exact⟨rfl,Below.refl _ _⟩
 ·obtain⟨b,o,rfl,kX,hcell⟩:=h.cell (k:=0) (by omega)
  have V:=hcell 0 (by omega)
  obtain⟨x,l,rfl⟩:∃x l,bs=x::l:=by cases bs with
   |nil=>simp at hn;omega
   |cons x l=>exact⟨x,l,rfl⟩
  have V:w.cell? ⟨b,o,none⟩=some (.int .u8 x.toNat):=V;have I:=Qh hn;have H:=Qh h;clear hn h hcell;have Zr:((n:Int)==0)=false:=by simp;omega
  obtain⟨y,hy⟩:∃y:Int,y=(x.toNat:Int):=⟨_,rfl⟩
  rw[←hy]at V;have Y:=Qh hy;clear hy
  by_cases B:y=128
  ·have YO:(y==128)=true:=by simpa using B
   have hl:l.length=n - 1:=by have:=I.out;simp at this;omega
   have E:Hid (bM (x::l)=fZ 256 0 l 0):=Qh (by rw[bM,if_pos (by rw[←Y.out];exact B)])
   have T:Hid (cK w (if c=1 then some ⟨b,o,none⟩else some ⟨b,o+1,none⟩) (n - 1) l):=Qh (fun hh=>by
    obtain⟨b',o',e,u⟩:=H.out (by omega)
    cases e
    rw[if_neg (by omega)];refine⟨b,o+1,rfl,fun i hi=>?_⟩;rw[Nat.add_assoc,u (1+i) (by omega),Nat.add_comm 1 i]
    rfl)
   have X:=Qh hl;have al0:=Qh B;clear hl B
   by_cases f:c=1
   ·have A:=T.out
    rw[if_pos f]at A;have N:=Qh A;clear A
    go_enter Tryz.func102,Tryz.ntmps102
    go_wp2_with fail
    refine(iC 256 0 _ (n - 1) _ l w (by omega) (by omega) (by omega) (by omega) X.out (by unfold maxLen;omega) N.out).mono ?_;rintro e w' ⟨rfl,R⟩;go_wp2;go_ret2;rw[E.out];exact⟨rfl,R⟩
   ·have A:=T.out
    rw[if_neg f]at A;have N:=Qh A;clear A
    go_enter Tryz.func102,Tryz.ntmps102
    go_wp2_with fail
    refine(iC 256 0 _ (n - 1) _ l w (by omega) (by omega) (by omega) (by omega) X.out (by unfold maxLen;omega) N.out).mono ?_;rintro e w' ⟨rfl,R⟩;go_wp2;go_ret2;rw[E.out];exact⟨rfl,R⟩
  ·have YO:(y==128)=false:=by simpa using B
   have E:Hid (bM (x::l)=fZ 8 48 (Lib.trimRightS (Lib.trimLeftS (x::l) [32]) [32,0]) 0):=Qh (by rw[bM,if_neg (by rw[←Y.out];exact B)]);obtain⟨J,d,q,Z,hcc,r⟩:=j9 H.out I.out hc;have t:=Qh q;have W:=Qh r;clear q r;have vF:(Lib.trimLeftS (x::l) [32]).length≤n:=by have:=(tc (x::l) [32]).1;rw[I.out]at this;exact this
   obtain⟨k,hk⟩:∃k,k=(Lib.trimLeftS (x::l) [32]).length:=⟨_,rfl⟩
   obtain⟨m,L⟩:∃m,m=(Lib.trimRightS (Lib.trimLeftS (x::l) [32]) [32,0]).length:=⟨_,rfl⟩
   have z:m≤k:=by
    rw[L,hk];exact Lib.trimRightS_len_le _ _
   have G:=Qh hk;have M:=Qh L;rw[←hk]at vF Z;clear hk L
   go_enter Tryz.func102,Tryz.ntmps102
   go_wp2_with fail
   refine(A9 _ n c (x::l) w I.out hc hm H.out).mono ?_;rintro e w1 ⟨rfl,D⟩;rw[t.out,←G.out];go_wp2_with fail;refine(ya J k d _ w1 G.out.symm Z (by omega) ((show cK w J k _ by rw[G.out];exact W.out).below D)).mono ?_;rintro e w2 ⟨rfl,O⟩;rw[←M.out];go_wp2_with fail
   refine(iC 8 48 J m d (Lib.trimRightS (Lib.trimLeftS (x::l) [32]) [32,0]) w2 (by omega) (by omega) (by omega) (by omega) M.out.symm (by unfold maxLen;omega)
    (by
     have h1:=((show cK w J k _ by rw[G.out];exact W.out).take z).below (D.trans (O.mono D.size));have g:=Lib.trimRightS_eq_take (Lib.trimLeftS (x::l) [32]) [32,0];rw[←M.out]at g;rw[g]
     exact h1)).mono ?_
   rintro e w3 ⟨rfl,eN⟩;go_wp2;go_ret2;rw[E.out];exact⟨rfl,(D.trans (O.mono D.size)).trans (eN.mono (Nat.le_trans D.size O.size))⟩
end Field
end Go.Proofs.YtdhibldkldlfpaaGreatDoor
