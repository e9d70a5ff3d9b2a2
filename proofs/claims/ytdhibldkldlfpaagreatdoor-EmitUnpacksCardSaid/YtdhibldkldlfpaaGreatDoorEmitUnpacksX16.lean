/- Merged. -/
import Derived.Test.YtdhibldkldlfpaaGreatDoorEmitUnpacksX11
import Derived.OpenShut
import Derived.ShutString
import Derived.Test.YtdhibldkldlfpaaGreatDoorEmitUnpacksX5
import Derived.Test.YtdhibldkldlfpaaGreatDoorEmitUnpacksX2
import Derived.Test.YtdhibldkldlfpaaGreatDoorEmitUnpacksX9
namespace Go.Proofs.YtdhibldkldlfpaaGreatDoor
namespace ur
end ur
set_option linter.unusedVariables false
set_option maxHeartbeats 1000000
set_option maxRecDepth 100000
open Go.ChangeShapes Go.WideShapes Go.ChangeAt Go.RowKit Base
namespace ur
variable {l m n:Int}
def SZ (n l m:Int):Bool:=decide (l≤n∧n≤m)
theorem oL (h1:l≤n) (h2:n≤m):SZ n l m=true:=by simp[SZ,h1,h2]
theorem qE (h:¬(l≤n∧n≤m)):SZ n l m=false:=by simp only[SZ,decide_eq_false_iff_not];exact h
theorem kA (n l m:Int) (w:World) (h1:l≤n) (h2:n≤m):
 Calls Tryz.prog 152 #[.int .i64 n,.int .i64 l,.int .i64 m] w fun e w'=>e=.returned (.bool true)∧w=w':=by
 go_enter Tryz.func152,Tryz.ntmps152
 go_wp2;go_ret;exact⟨rfl,rfl⟩
theorem qY (n l m:Int) (w:World) (h:¬(l≤n∧n≤m)):
 Calls Tryz.prog 152 #[.int .i64 n,.int .i64 l,.int .i64 m] w fun e w'=>e=.returned (.bool false)∧w=w':=by
 by_cases h1:l≤n
 ·have A:¬n≤m:=fun A=>h ⟨h1,A⟩
  clear h
  go_enter Tryz.func152,Tryz.ntmps152
  go_wp2;go_ret;exact⟨rfl,rfl⟩
 ·clear h
  go_enter Tryz.func152,Tryz.ntmps152
  go_wp2;go_ret;exact⟨rfl,rfl⟩
theorem tA (n l m:Int) (w:World):
 Calls Tryz.prog 152 #[.int .i64 n,.int .i64 l,.int .i64 m] w fun e w'=>e=.returned (.bool (SZ n l m))∧w=w':=by
 by_cases h:l≤n∧n≤m
 ·rw[oL h.1 h.2];exact kA n l m w h.1 h.2
 ·rw[qE h];exact qY n l m w h
def uo:List Int→Int→Option Int
 |[],s=>some s
 |x::l,s=>if 0≤x∧x≤4611686018427387904 - s then uo l (s+x)else none
def Wn:Option Int→Int
 |some s=>s
 |none=>0
def okO:Option Int→Bool
 |some _=>true
 |none=>false
theorem drop_cons (zs:List Int) (k:Nat) (h:k<zs.length):zs.drop k=zs.getD k 0::zs.drop (k+1):=by
 rw[List.drop_eq_getElem_cons h];simp[List.getD,h]
theorem Sl (zs:List Int) (k:Nat) (s:Int) (h:k<zs.length) (h0:0≤zs.getD k 0) (h1:zs.getD k 0≤4611686018427387904 - s):
 uo (zs.drop k) s=uo (zs.drop (k+1)) (s+zs.getD k 0):=by
 rw[drop_cons zs k h,uo,if_pos ⟨h0,h1⟩]
theorem Sm (zs:List Int) (k:Nat) (s:Int) (h:k<zs.length) (h0:¬(0≤zs.getD k 0∧zs.getD k 0≤4611686018427387904 - s)):
 uo (zs.drop k) s=none:=by
 rw[drop_cons zs k h,uo,if_neg h0]
theorem TH (b off len cap:Nat) (zs:List Int) (w:World) (hl:zs.length=len) (hm:len≤maxLen)
 (hc:∀i,i<len→w.cell? ⟨b,off+i,none⟩=some (.int .i64 (zs.getD i 0))):
 Calls Tryz.prog 162 #[.slice (some ⟨b,off,none⟩) len cap] w fun e w'=>e=.returned (.tuple #[.int .i64 (Wn (uo zs 0)),.bool (okO (uo zs 0))])∧w=w':=by
 unfold maxLen at hm;have B:Hid (zs.length=len):=hl;have HC:Hid (∀i,i<len→w.cell? ⟨b,off+i,none⟩=some (.int .i64 (zs.getD i 0))):=hc;clear hl hc
 go_enter Tryz.func162,Tryz.ntmps162
 go_wp2
 go_loop [4,9] (fun t i=>∃(k:Nat) (s:Int),k≤len∧0≤s∧s≤4611686018427387904∧i=.int .i64 k∧t=.int .i64 s∧Hid (uo (zs.drop k) s=uo zs 0)) (fun _ i=>len - (RowKit.intOf i).toNat)
 case atStart=>exact⟨0,0,Nat.zero_le _,by omega,by decide,rfl,rfl,rfl⟩
 case round=>
  obtain⟨k,s,hk,M,N,rfl,rfl,G⟩:=hrel
  by_cases D:k<len
  ·have hcell:=HC.out k D
   obtain⟨z,H⟩:∃z,z=zs.getD k 0:=⟨_,rfl⟩
   rw[←H]at hcell;have A:Hid (z=zs.getD k 0):=H;clear H
   by_cases I:0≤z∧z≤4611686018427387904 - s
   ·obtain⟨J,h1⟩:=I
    go_wp2_with (go_at_call 152;refine(kA _ _ _ _ (by omega) (by omega)).mono ?_;rintro e w' ⟨rfl,rfl⟩)
    go_round
    case rel=>exact⟨k+1,s+z,by omega,by omega,by omega,by go_num,rfl,Qh (by rw[←G.out,Sl zs k s (by rw[B.out];exact D) (by rw[←A.out];exact J) (by rw[←A.out];exact h1),←A.out])⟩
    case measure=>simp[RowKit.intOf];omega
   ·go_wp2_with (go_at_call 152;refine(qY _ _ _ _ I).mono ?_;rintro e w' ⟨rfl,rfl⟩)
    go_ret2;have E:uo zs 0=none:=by rw[←G.out];exact Sm zs k s (by rw[B.out];exact D) (by rw[←A.out];exact I)
    rw[E];exact⟨rfl,rfl⟩
  ·have L:Hid (k=len):=Qh (by omega)
   go_wp2;go_ret2;have E:uo zs 0=some s:=by rw[←G.out,L.out,←B.out,List.drop_length];rfl
   rw[E];exact⟨rfl,rfl⟩
theorem DH (a b:Int):uo [a,b] 0=if 0≤a∧a≤4611686018427387904∧0≤b∧a+b≤4611686018427387904 then some (a+b)else none:=by
 simp only[uo]
 by_cases h:0≤a∧a≤4611686018427387904 - 0
 ·rw[if_pos h]
  by_cases A:0≤b∧b≤4611686018427387904 - (0+a)
  ·rw[if_pos A,if_pos (by omega),Int.zero_add]
  ·rw[if_neg A,if_neg (by omega)]
 ·rw[if_neg h,if_neg (by omega)]
theorem Gf (a b:Int) (w:World):
 Calls Tryz.prog 162 #[.slice (some ⟨w.heap.size,0,none⟩) 2 2] (w.alloc (.cells #[.int .i64 a,.int .i64 b] 3)) fun e w'=>e=.returned (.tuple #[.int .i64 (Wn (uo [a,b] 0)),.bool (okO (uo [a,b] 0))])∧w.alloc (.cells #[.int .i64 a,.int .i64 b] 3)=w':=
 TH _ _ 2 2 [a,b] _ rfl (by decide) (fun i hi=>by
  match i,hi with
  |0,_=>simp
  |1,_=>simp)
def Hh (n:Int):Int:=if 0≤n∧n≤4611686018427387904 then(if n % 512=0 then n else n+(512 - n % 512))else 0
theorem O4 (n:Int) (w:World):
 Calls Tryz.prog 128 #[.int .i64 n] w fun e w'=>e=.returned (.tuple #[.int .i64 (Hh n),.bool (SZ n 0 4611686018427387904)])∧Below w.heap.size w w':=by
 by_cases h:0≤n∧n≤4611686018427387904
 ·obtain⟨D,h1⟩:=h
  by_cases A:n % 512=0
  ·have B:Hid (Hh n=n):=Qh (by rw[Hh,if_pos ⟨D,h1⟩,if_pos A])
   have G:(n % 512==0)=true:=by simpa using A
   have E:=Qh A;clear A
   go_enter Tryz.func128,Tryz.ntmps128
   go_wp2_with (go_at_call 152;refine(kA _ _ _ _ (by omega) (by omega)).mono ?_;rintro e w' ⟨rfl,rfl⟩)
   go_ret2;rw[B.out,oL D h1];exact⟨rfl,Below.refl _ _⟩
  ·have B:Hid (Hh n=n+(512 - n % 512)):=Qh (by rw[Hh,if_pos ⟨D,h1⟩,if_neg A])
   have G:(n % 512==0)=false:=by simpa using A
   have E:=Qh A;clear A
   go_enter Tryz.func128,Tryz.ntmps128
   go_wp2_with (go_at_call 152;refine(kA _ _ _ _ (by omega) (by omega)).mono ?_;rintro e w' ⟨rfl,rfl⟩)
   refine(Gf n (512 - n % 512) _).mono ?_;rintro e w' ⟨rfl,rfl⟩;rw[DH,if_pos (by have:=E.out;omega)];go_wp2;go_ret2;rw[B.out,oL D h1];exact⟨rfl,(Below.refl _ _).alloc (Qk _) _⟩
 ·have B:Hid (Hh n=0):=Qh (by rw[Hh,if_neg h])
  go_enter Tryz.func128,Tryz.ntmps128
  go_wp2_with (go_at_call 152;refine(qY _ _ _ _ h).mono ?_;rintro e w' ⟨rfl,rfl⟩)
  go_ret2;rw[B.out,qE h];exact⟨rfl,Below.refl _ _⟩
def wh (a b:Int):Option Int:=if 0≤a∧a≤4611686018427387904∧0≤b∧b≤4611686018427387904∧a*b≤4611686018427387904 then some (a*b)else none
theorem T1 (a b:Int) (h:0<a):4611686018427387904 / a<b↔4611686018427387904<a*b:=by
 rw[Int.ediv_lt_iff_lt_mul h,Int.mul_comm]
theorem OY (a b:Int) (w:World):
 Calls Tryz.prog 172 #[.int .i64 a,.int .i64 b] w fun e w'=>e=.returned (.tuple #[.int .i64 (Wn (wh a b)),.bool (okO (wh a b))])∧w=w':=by
 by_cases h:0≤a∧a≤4611686018427387904
 ·obtain⟨B,h1⟩:=h
  by_cases A:0≤b∧b≤4611686018427387904
  ·obtain⟨A,D⟩:=A
   by_cases G:0<a
   ·by_cases H:4611686018427387904 / a<b
    ·have E:Hid (wh a b=none):=Qh (by rw[wh,if_neg];intro L;have:=(T1 a b G).1 H;omega)
     go_enter Tryz.func172,Tryz.ntmps172
     go_wp2_with (go_at_call 152;refine(kA _ _ _ _ (by omega) (by omega)).mono ?_;rintro e w' ⟨rfl,rfl⟩)
     go_ret2;rw[E.out];exact⟨rfl,rfl⟩
    ·have I:a*b≤4611686018427387904:=by have:=mt (T1 a b G).2 H;omega
     have J:0≤a*b:=Int.mul_nonneg B A;have E:Hid (wh a b=some (a*b)):=Qh (by rw[wh,if_pos ⟨B,h1,A,D,I⟩])
     go_enter Tryz.func172,Tryz.ntmps172
     go_wp2_with (go_at_call 152;refine(kA _ _ _ _ (by omega) (by omega)).mono ?_;rintro e w' ⟨rfl,rfl⟩)
     go_ret2;rw[E.out];exact⟨rfl,rfl⟩
   ·obtain rfl:a=0:=by omega
    have E:Hid (wh 0 b=some 0):=Qh (by rw[wh,if_pos ⟨B,h1,A,D,by omega⟩,Int.zero_mul])
    go_enter Tryz.func172,Tryz.ntmps172
    go_wp2_with (go_at_call 152;refine(kA _ _ _ _ (by omega) (by omega)).mono ?_;rintro e w' ⟨rfl,rfl⟩)
    go_ret2;rw[E.out];exact⟨rfl,rfl⟩
  ·have E:Hid (wh a b=none):=Qh (by rw[wh,if_neg (by omega)])
   go_enter Tryz.func172,Tryz.ntmps172
   go_wp2_with (go_at_call 152;first|(refine(kA _ _ _ _ (by omega) (by omega)).mono ?_;rintro e w' ⟨rfl,rfl⟩)|(refine(qY _ _ _ _ A).mono ?_;rintro e w' ⟨rfl,rfl⟩))
   go_ret2;rw[E.out];exact⟨rfl,rfl⟩
 ·have E:Hid (wh a b=none):=Qh (by rw[wh,if_neg (by omega)])
  go_enter Tryz.func172,Tryz.ntmps172
  go_wp2_with (go_at_call 152;refine(qY _ _ _ _ h).mono ?_;rintro e w' ⟨rfl,rfl⟩)
  go_ret2;rw[E.out];exact⟨rfl,rfl⟩
end ur
namespace Path
open Go.Shelf cb iK Go.Lib
theorem UX (c p:List UInt8) (w:World) (hm:c.length+p.length≤140737488351500):
 Calls Tryz.prog 151 #[.string (str c),.string (str p)] w fun e w'=>e=.returned (.string (str (cr c p)))∧w=w':=by
 have hs:(str c).size+1+(str p).size≤9223372036854775807:=by rw[ax,ax];omega
 have G:(str c).size+1≤9223372036854775807:=by omega
 clear hm
 by_cases h1:p=[]
 ·have e:str (cr c p)=str c:=by unfold cr;rw[if_pos (.inl h1)]
  have b1:(str p).toList.isEmpty=true:=by rw[bh];simpa using h1
  rw[e];clear e h1
  go_enter Tryz.func151,Tryz.ntmps151
  go_wp2;go_ret;exact⟨rfl,rfl⟩
 ·have b1:(str p).toList.isEmpty=false:=by rw[bh];simpa using h1
  by_cases A:p=[46]
  ·have e:str (cr c p)=str c:=by unfold cr;rw[if_pos (.inr A)]
   have D:((str p).toList==[46])=true:=by rw[p9];simpa using A
   rw[e];clear e h1 A
   go_enter Tryz.func151,Tryz.ntmps151
   go_wp2;go_ret;exact⟨rfl,rfl⟩
  ·have D:((str p).toList==[46])=false:=by rw[p9];simpa using A
   by_cases B:c=[]
   ·have e:str (cr c p)=str p:=by unfold cr;rw[if_neg (by simp[h1,A]),if_pos B]
    have E:(str c).toList.isEmpty=true:=by rw[bh];simpa using B
    rw[e];clear e h1 A B
    go_enter Tryz.func151,Tryz.ntmps151
    go_wp2;go_ret;exact⟨rfl,rfl⟩
   ·have e:str c++⟨#[47]⟩++str p=str (cr c p):=by
     unfold cr;rw[if_neg (by simp[h1,A]),if_neg B,show(⟨#[47]⟩:ByteArray)=str [47]from rfl,lu,lu];simp
    have E:(str c).toList.isEmpty=false:=by rw[bh];simpa using B
    rw[←e];clear e h1 A B
    go_enter Tryz.func151,Tryz.ntmps151
    go_wp2;go_ret;exact⟨rfl,rfl⟩
theorem yi (a b:List UInt8) (w:World):
 Calls Tryz.prog 45 #[.string (str a),.string (str b)] w fun e w'=>e=.returned (.bool (Op.bytesLess a b))∧w=w':=by
 rw[show Op.bytesLess a b=Op.bytesLess (str a).toList (str b).toList by rw[ak,ak]]
 go_enter Tryz.func45,Tryz.ntmps45
 go_wp2;go_ret;exact⟨rfl,rfl⟩
def vW (l:List UInt8):List UInt8 × List UInt8 × Bool:=
 if 0≤Lib.indexByte l 47 then(l.take (Lib.indexByte l 47).toNat,l.drop ((Lib.indexByte l 47).toNat+1),true)else(l,[],false)
theorem Sf (l:List UInt8) (w:World) (hm:l.length≤140737488351232):
 Calls Tryz.prog 181 #[.string (str l),.string ⟨#[47]⟩] w fun e w'=>e=.returned (.tuple #[.string (str (vW l).1),.string (str (vW l).2.1),.bool (vW l).2.2])∧∃n,w'=w.drewN n:=by
 have A:=Any.stringslite_Index_one Tryz.zp (str l) 47 w;rw[aS]at A;have hs:(str l).size=l.length:=ax l;unfold vW
 by_cases h:0≤Lib.indexByte l 47
 ·obtain⟨k,hk⟩:∃k:Nat,Lib.indexByte l 47=k:=⟨(Lib.indexByte l 47).toNat,by omega⟩
  have G:=(List.getElem?_eq_some_iff.1 (Lib.indexByte_some hk).1).1;rw[if_pos h,hk,Int.toNat_natCast];rw[hk]at A;clear h hk;simp only;have B:(str l).extract 0 k=str (l.take k):=yH l k;have D:(str l).extract (k+1) (str l).size=str (l.drop (k+1)):=DG l (k+1) _ hs;rw[←B,←D];have c1:(0:Int)≤(k:Int):=by omega
  have c2:(k:Int)≤((str l).size:Int):=by omega
  have c3:(0:Int)≤(k:Int)+1:=by omega
  have H:(k:Int)+1≤((str l).size:Int):=by omega
  have c5:((str l).size:Int)≤140737488351232:=by omega
  clear B D;have mixed:Tryz.prog.follows .mixedOrders=true:=by kernel_rfl
  go_enter Tryz.func181,Tryz.ntmps181
  go_wp2_with (go_at_call 208;refine A.mono ?_;rintro e w' ⟨rfl,rfl⟩)
  go_region_o
  go_wp2
  go_ret3
  exact⟨rfl,1,rfl⟩
 ·rw[if_neg h]
  have E:Lib.indexByte l 47=-1:=by have:=Lib.indexByte_ge l 47;omega
  rw[E]at A;clear h E
  go_enter Tryz.func181,Tryz.ntmps181
  go_wp2_with (go_at_call 208;refine A.mono ?_;rintro e w' ⟨rfl,rfl⟩)
  go_ret3
  exact⟨rfl,0,rfl⟩
theorem Gl (l:List UInt8) (w:World) (hm:l.length≤140737488351232):
 Calls Tryz.prog 141 #[.string (str l),.string ⟨#[47]⟩] w fun e w'=>e=.returned (.tuple #[.string (str (vW l).1),.string (str (vW l).2.1),.bool (vW l).2.2])∧∃n,w'=w.drewN n:=by
 have hc:=Sf l w hm
 go_enter Tryz.func141,Tryz.ntmps141
 go_wp2_with (go_at_call 181;refine hc.mono ?_;rintro e w' ⟨rfl,n,rfl⟩)
 go_ret3
 exact⟨rfl,n,rfl⟩
end Path
namespace Field
open ur Fp cb
theorem Wm (x:Int):Wn (some x)=x:=rfl
theorem VB (x:Int):okO (some x)=true:=rfl
theorem Wl:Wn none=0:=rfl
theorem VA:okO none=false:=rfl
theorem pn (base zero:Int) (p:Option Addr) (n c:Nat) (bs:List UInt8) (w:World) (QN:2≤base) (ch:base≤256) (kh:0≤zero) (jS:zero+base≤256)
 (hn:bs.length=n) (hm:n≤maxLen) (h:iC w p n bs):
 Calls Tryz.prog 136 #[.int .i64 base,.int .u8 zero,.slice p n c] w fun e w'=>e=.returned (.tuple #[.int .i64 (tU (jT base zero bs 0)),.bool (BF (jT base zero bs 0))])∧Below w.heap.size w w':=by
 unfold maxLen at hm;have G:=Qh hn;have H:=Qh h;clear hn h
 go_enter Tryz.func136,Tryz.ntmps136
 go_wp2
 go_loopw [8,16] (fun s i wr=>∃(k:Nat) (s0:Int),k≤n∧0≤s0∧s0≤4611686018427387904∧i=.int .i64 k∧s=.int .i64 s0∧Hid (jT base zero (bs.drop k) s0=jT base zero bs 0)∧Below w.heap.size w wr) (fun _ i _=>n - (RowKit.intOf i).toNat)
 case atStart=>exact⟨0,0,Nat.zero_le _,by omega,by decide,rfl,rfl,Qh rfl,Below.refl _ _⟩
 case round=>
  obtain⟨k,s0,hk,U,l,rfl,rfl,J,A⟩:=hrel
  by_cases D:k<n
  ·obtain⟨b,o,rfl,d,hcell⟩:=H.out.cell D
   have hc:=hcell k D;clear hcell;obtain⟨x,L⟩:∃x:Int,x=((bs.getD k 0).toNat:Int):=⟨_,rfl⟩
   rw[←L]at hc;have T:=F1 (bs.getD k 0);rw[←L]at T;have I:=Qh L;clear L;obtain⟨m,q⟩:=T;rw[←A.cell d]at hc
   by_cases hd:base≤(x - zero) % 256
   ·have E:Hid (jT base zero bs 0=none):=Qh (by
     rw[←J.out];exact zb base zero bs k s0 (by rw[G.out];exact D) (by rw[←I.out];omega))
    go_wp2;go_ret2;rw[E.out];exact⟨rfl,A⟩
   ·have Y:zero≤x∧x<zero+base:=by omega
    have B:Hid ((x - zero) % 256=x - zero):=Qh (by omega);have M:0≤x - zero∧x - zero≤255:=by omega
    obtain⟨M,X⟩:=M;have R:0≤s0*base:=Int.mul_nonneg U (by omega)
    by_cases V:s0*base≤4611686018427387904
    ·have N:Hid (wh s0 base=some (s0*base)):=Qh (by rw[wh,if_pos ⟨U,l,by omega,by omega,V⟩])
     go_wp2_with fail
     refine(OY _ _ _).mono ?_;rintro e f ⟨rfl,rfl⟩;rw[N.out,Wm,VB]
     by_cases W:s0*base+(x - zero)≤4611686018427387904
     ·have O:Hid (uo [s0*base,x - zero] 0=some (s0*base+(x - zero))):=Qh (by rw[DH,if_pos ⟨R,V,M,W⟩])
      go_wp2_with fail
      refine(Gf _ _ _).mono ?_;rintro e g ⟨rfl,rfl⟩;rw[O.out,Wm,VB];go_wp2;go_roundw
      case rel=>exact⟨k+1,s0*base+(x - zero),by omega,by omega,W,by go_num,rfl,Qh (by rw[←J.out,Qt base zero bs k s0 (by rw[G.out];exact D) (by rw[←I.out];have:=B.out;omega),←I.out]),A.alloc A.size _⟩
      case measure=>simp[RowKit.intOf];omega
     ·have O:Hid (uo [s0*base,x - zero] 0=none):=Qh (by rw[DH,if_neg (by omega)])
      have E:Hid (jT base zero bs 0=none):=Qh (by
       rw[←J.out];exact zb base zero bs k s0 (by rw[G.out];exact D) (by rw[←I.out];have:=B.out;omega))
      go_wp2_with fail
      refine(Gf _ _ _).mono ?_;rintro e g ⟨rfl,rfl⟩;rw[O.out,Wl,VA];go_wp2;go_ret2;rw[E.out];exact⟨rfl,A.alloc A.size _⟩
    ·have N:Hid (wh s0 base=none):=Qh (by rw[wh,if_neg (by omega)])
     have E:Hid (jT base zero bs 0=none):=Qh (by
      rw[←J.out];exact zb base zero bs k s0 (by rw[G.out];exact D) (by rw[←I.out];have:=B.out;omega))
     go_wp2_with fail
     refine(OY _ _ _).mono ?_;rintro e f ⟨rfl,rfl⟩;rw[N.out,Wl,VA];go_wp2;go_ret2;rw[E.out];exact⟨rfl,A⟩
  ·have Z:Hid (k=n):=Qh (by omega)
   go_wp2;go_ret2;have E:jT base zero bs 0=some s0:=by rw[←J.out,Z.out,←G.out,List.drop_length];rfl
   rw[E];exact⟨rfl,A⟩
theorem BA:(Tryz.prog.info? (Tryz.Ff.t 27)).map (fun i=>(i.zero,i.size))=some (some (.agg (Array.replicate 256 (.bool false))),256):=by kernel_rfl
theorem H9 (p:Option Addr) (n c:Nat) (bs:List UInt8) (w:World) (hn:bs.length=n) (hc:n≤c) (hm:c≤maxLen) (h:iC w p n bs):
 Calls Tryz.prog 134 #[.slice p n c,.string ⟨#[32]⟩] w fun e w'=>e=.returned (Lib.leftV p n c (n - (Lib.trimLeftS bs [32]).length))∧Below w.heap.size w w':=
 Any.bytes_TrimLeft_ascii Tryz.ar0 (zero_of_info BA).1 (zero_of_info BA).2 p n c bs ⟨#[32]⟩ w hn hc (by unfold maxLen at hm;omega) h (by decide) (fun j b A=>by
  match j,A with
  |0,A=>cases A;decide
  |j+1,A=>simp at A)
theorem Er (p:Option Addr) (n c:Nat) (bs:List UInt8) (w:World) (hn:bs.length=n) (hc:n≤c) (hm:c≤maxLen) (h:iC w p n bs):
 Calls Tryz.prog 137 #[.slice p n c,.string ⟨#[32,0]⟩] w fun e w'=>e=.returned (.slice p (Lib.trimRightS bs [32,0]).length c)∧Below w.heap.size w w':=
 Any.bytes_TrimRight_ascii Tryz.aq9 (zero_of_info BA).1 (zero_of_info BA).2 p n c bs ⟨#[32,0]⟩ w hn hc (by unfold maxLen at hm;omega) h (by decide) (fun j b A=>by
  match j,A with
  |0,A=>cases A;decide
  |1,A=>cases A;decide
  |j+2,A=>simp at A)
theorem Au (l cs:List UInt8):(Lib.trimLeftS l cs).length≤l.length∧l.drop (l.length - (Lib.trimLeftS l cs).length)=Lib.trimLeftS l cs:=by
 have h:Lib.trimLeftS l cs<:+l:=List.dropWhile_suffix _;exact⟨h.length_le,(List.suffix_iff_eq_drop.1 h).symm⟩
theorem ra {w:World} {p:Option Addr} {n c:Nat} {bs:List UInt8} (h:iC w p n bs) (hn:bs.length=n) (hc:n≤c):
 ∃p' c',Lib.leftV p n c (n - (Lib.trimLeftS bs [32]).length)=.slice p' (Lib.trimLeftS bs [32]).length c'∧(Lib.trimLeftS bs [32]).length≤c'∧c'≤c∧iC w p' (Lib.trimLeftS bs [32]).length (Lib.trimLeftS bs [32]):=by
 obtain⟨h1,D⟩:=Au bs [32]
 by_cases B:(Lib.trimLeftS bs [32]).length=0
 ·refine⟨none,0,?_,by omega,by omega,fun E=>by omega⟩
  unfold Lib.leftV;rw[B]
  by_cases A:n=0
  ·subst A;rfl
  ·rw[if_pos (by omega)]
 ·refine⟨if c=n - (Lib.trimLeftS bs [32]).length then p else p.map (fun x=>x.add (n - (Lib.trimLeftS bs [32]).length)),c - (n - (Lib.trimLeftS bs [32]).length),?_,by omega,by omega,?_⟩
  ·unfold Lib.leftV Lib.fromV
   rw[if_neg (by omega),show n - (n - (Lib.trimLeftS bs [32]).length)=(Lib.trimLeftS bs [32]).length by omega]
  ·have:=h.drop (k:=n - (Lib.trimLeftS bs [32]).length) (by omega) hc hn
   rw[show n - (n - (Lib.trimLeftS bs [32]).length)=(Lib.trimLeftS bs [32]).length by omega]at this;rw[show bs.drop (n - (Lib.trimLeftS bs [32]).length)=Lib.trimLeftS bs [32] by rw[←hn];exact D]at this;exact this
theorem Ft (p:Option Addr) (n c:Nat) (bs:List UInt8) (w:World) (hn:bs.length=n) (hc:n≤c) (hm:c≤maxLen) (h:iC w p n bs):
 Calls Tryz.prog 102 #[.slice p n c] w fun e w'=>e=.returned (.tuple #[.int .i64 (tU (aY bs)),.bool (BF (aY bs))])∧Below w.heap.size w w':=by
 have U:=hm;unfold maxLen at U
 by_cases h0:n=0
 ·subst h0
  obtain rfl:bs=[]:=List.eq_nil_of_length_eq_zero hn;clear hn h
  go_enter Tryz.func102,Tryz.ntmps102
  go_wp2;go_ret2;exact⟨rfl,Below.refl _ _⟩
 ·obtain⟨b,o,rfl,pL,hcell⟩:=h.cell (k:=0) (by omega)
  have V:=hcell 0 (by omega)
  obtain⟨x,l,rfl⟩:∃x l,bs=x::l:=by cases bs with
   |nil=>simp at hn;omega
   |cons x l=>exact⟨x,l,rfl⟩
  have V:w.cell? ⟨b,o,none⟩=some (.int .u8 x.toNat):=V;have I:=Qh hn;have H:=Qh h;clear hn h hcell;have hn0:((n:Int)==0)=false:=by simp;omega
  obtain⟨y,hy⟩:∃y:Int,y=(x.toNat:Int):=⟨_,rfl⟩
  rw[←hy]at V;have Z:=Qh hy;clear hy
  by_cases D:y=128
  ·have z:(y==128)=true:=by simpa using D
   have hl:l.length=n - 1:=by have:=I.out;simp at this;omega
   have E:Hid (aY (x::l)=jT 256 0 l 0):=Qh (by rw[aY,if_pos (by rw[←Z.out];exact D)])
   have T:Hid (iC w (if c=1 then some ⟨b,o,none⟩else some ⟨b,o+1,none⟩) (n - 1) l):=Qh (fun hh=>by
    obtain⟨b',o',e,ZF⟩:=H.out (by omega)
    cases e
    rw[if_neg (by omega)];refine⟨b,o+1,rfl,fun i hi=>?_⟩;rw[Nat.add_assoc,ZF (1+i) (by omega),Nat.add_comm 1 i]
    rfl)
   have Y:=Qh hl;have aI7:=Qh D;clear hl D
   by_cases q:c=1
   ·have A:=T.out
    rw[if_pos q]at A;have M:=Qh A;clear A
    go_enter Tryz.func102,Tryz.ntmps102
    go_wp2_with fail
    refine(pn 256 0 _ (n - 1) _ l w (by omega) (by omega) (by omega) (by omega) Y.out (by unfold maxLen;omega) M.out).mono ?_;rintro e w' ⟨rfl,R⟩;go_wp2;go_ret2;rw[E.out];exact⟨rfl,R⟩
   ·have A:=T.out
    rw[if_neg q]at A;have M:=Qh A;clear A
    go_enter Tryz.func102,Tryz.ntmps102
    go_wp2_with fail
    refine(pn 256 0 _ (n - 1) _ l w (by omega) (by omega) (by omega) (by omega) Y.out (by unfold maxLen;omega) M.out).mono ?_;rintro e w' ⟨rfl,R⟩;go_wp2;go_ret2;rw[E.out];exact⟨rfl,R⟩
  ·have z:(y==128)=false:=by simpa using D
   have E:Hid (aY (x::l)=jT 8 48 (Lib.trimRightS (Lib.trimLeftS (x::l) [32]) [32,0]) 0):=Qh (by rw[aY,if_neg (by rw[←Z.out];exact D)]);obtain⟨J,d,g,r,L3,W⟩:=ra H.out I.out hc;have t:=Qh g;have X:=Qh W;clear g W;have u:(Lib.trimLeftS (x::l) [32]).length≤n:=by have:=(Au (x::l) [32]).1;rw[I.out]at this;exact this
   obtain⟨k,hk⟩:∃k,k=(Lib.trimLeftS (x::l) [32]).length:=⟨_,rfl⟩
   obtain⟨m,N⟩:∃m,m=(Lib.trimRightS (Lib.trimLeftS (x::l) [32]) [32,0]).length:=⟨_,rfl⟩
   have WQ:m≤k:=by
    rw[N,hk];exact Lib.trimRightS_len_le _ _
   have G:=Qh hk;have L:=Qh N;rw[←hk]at u r;clear hk N
   go_enter Tryz.func102,Tryz.ntmps102
   go_wp2_with fail
   refine(H9 _ n c (x::l) w I.out hc hm H.out).mono ?_;rintro e w1 ⟨rfl,B⟩;rw[t.out,←G.out];go_wp2_with fail;refine(Er J k d _ w1 G.out.symm r (by omega) ((show iC w J k _ by rw[G.out];exact X.out).below B)).mono ?_;rintro e w2 ⟨rfl,O⟩;rw[←L.out];go_wp2_with fail
   refine(pn 8 48 J m d (Lib.trimRightS (Lib.trimLeftS (x::l) [32]) [32,0]) w2 (by omega) (by omega) (by omega) (by omega) L.out.symm (by unfold maxLen;omega)
    (by
     have h1:=((show iC w J k _ by rw[G.out];exact X.out).take WQ).below (B.trans (O.mono B.size));have f:=Lib.trimRightS_eq_take (Lib.trimLeftS (x::l) [32]) [32,0];rw[←L.out]at f;rw[f]
     exact h1)).mono ?_
   rintro e w3 ⟨rfl,kW⟩;go_wp2;go_ret2;rw[E.out];exact⟨rfl,(B.trans (O.mono B.size)).trans (kW.mono (Nat.le_trans B.size O.size))⟩
theorem aj3 (s:ByteArray) (k:Nat) (h:k<s.size):s.data.toList.getD k 0=s[k]:=by
 rw[List.getD,Qd (show k<s.data.toList.length by simpa using h)];rfl
theorem RB (s:ByteArray) (w:World) (hm:s.size≤maxLen):
 Calls Tryz.prog 95 #[.string s] w fun e w'=>e=.returned (.tuple #[.int .i64 (kQ 8 48 576460752303423488 s.data.toList 0).1,.bool (kQ 8 48 576460752303423488 s.data.toList 0).2])∧w=w':=by
 unfold maxLen at hm
 go_enter Tryz.func95,Tryz.ntmps95
 go_wp2
 go_loop [4,5] (fun s0 i=>∃(k:Nat) (m:Int),k≤s.size∧0≤m∧m≤4611686018427387911∧i=.int .i64 k∧s0=.int .i64 m∧Hid (kQ 8 48 576460752303423488 (s.data.toList.drop k) m=kQ 8 48 576460752303423488 s.data.toList 0)) (fun _ i=>s.size - (RowKit.intOf i).toNat)
 case atStart=>exact⟨0,0,Nat.zero_le _,by omega,by decide,rfl,rfl,Qh rfl⟩
 case round=>
  obtain⟨k,m,hk,L,M,rfl,rfl,B⟩:=hrel
  by_cases G:k<s.size
  ·have hlen:k<s.data.toList.length:=by simpa using G
   have H:=aj3 s k G;have A:=Qh H;have D:=Qh hlen;clear H hlen;have I:=F1 s[k];obtain⟨N,O⟩:=I;go_wp2
   case roundEnd=>
    go_round
    case rel=>exact⟨k+1,m*8+((s[k].toNat:Int) - 48),by omega,by omega,by omega,by go_num,rfl,Qh (by
     rw[←B.out,FF 8 48 576460752303423488 s.data.toList k m D.out (by rw[A.out];omega),A.out];rfl)⟩
    case measure=>simp[RowKit.intOf];omega
   all_goals
    go_ret2
    have E:kQ 8 48 576460752303423488 s.data.toList 0=(0,false):=by
     rw[←B.out];exact FG 8 48 576460752303423488 s.data.toList k m D.out (by rw[A.out];omega)
    rw[E];exact⟨rfl,rfl⟩
  ·have J:Hid (k=s.size):=Qh (by omega)
   go_wp2;go_ret2
   have E:kQ 8 48 576460752303423488 s.data.toList 0=(m,decide (m≤4611686018427387904)):=by
    rw[←B.out,J.out,List.drop_eq_nil_of_le (by simp)];rfl
   rw[E];exact⟨rfl,rfl⟩
def lh:List UInt8→Int × Bool
 |[]=>(0,false)
 |c::l=>if(c.toNat:Int)=128 then kQ 256 0 18014398509481984 l 0 else kQ 8 48 576460752303423488 (Lib.trimRightS (Lib.trimLeftS (c::l) [32]) [32,0]) 0
theorem AF (bs:List UInt8):(lh bs).2=BF (aY bs)∧(BF (aY bs)=true→(lh bs).1=tU (aY bs)):=by
 cases bs with
 |nil=>exact⟨rfl,fun h=>by simp[aY,BF]at h⟩
 |cons c l=>
  rw[lh,aY];split
  ·exact AE l 0 (by omega) (by omega)
  ·exact FD _ 0 (by omega) (by omega)
theorem Dp (p:Option Addr) (n c:Nat) (bs:List UInt8) (w:World) (hn:bs.length=n) (hc:n≤c) (hm:c≤maxLen) (h:iC w p n bs):
 Calls Tryz.prog 63 #[.slice p n c] w fun e w'=>e=.returned (.tuple #[.int .i64 (lh bs).1,.bool (lh bs).2])∧w=w':=by
 have f:=hm;unfold maxLen at f
 by_cases h0:n=0
 ·subst h0
  obtain rfl:bs=[]:=List.eq_nil_of_length_eq_zero hn;clear hn h
  go_enter Tryz.func63,Tryz.ntmps63
  go_wp2;go_ret2;exact⟨rfl,rfl⟩
 ·obtain⟨b,o,rfl,pL,hcell⟩:=h.cell (k:=0) (by omega)
  have hx:=hcell 0 (by omega)
  obtain⟨x,l,rfl⟩:∃x l,bs=x::l:=by cases bs with
   |nil=>simp at hn;omega
   |cons x l=>exact⟨x,l,rfl⟩
  have hx:w.cell? ⟨b,o,none⟩=some (.int .u8 x.toNat):=hx;have A:=Qh hn;have H:=Qh h;have HC:=Qh hcell;clear hn h hcell;have hn0:((n:Int)==0)=false:=by simp;omega
  obtain⟨y,hy⟩:∃y:Int,y=(x.toNat:Int):=⟨_,rfl⟩
  rw[←hy]at hx;have HY:=Qh hy;clear hy
  by_cases N:y=128
  ·have Uj:(y==128)=true:=by simpa using N
   have E:Hid (lh (x::l)=kQ 256 0 18014398509481984 l 0):=Qh (by rw[lh,if_pos (by rw[←HY.out];exact N)]);clear N
   go_enter Tryz.func63,Tryz.ntmps63
   go_wp2
   go_loop [4,5] (fun s0 i=>∃(k:Nat) (m:Int),1≤k∧k≤n∧0≤m∧m≤4611686018427388159∧i=.int .i64 k∧s0=.int .i64 m∧Hid (kQ 256 0 18014398509481984 ((x::l).drop k) m=kQ 256 0 18014398509481984 l 0)) (fun _ i=>n - (RowKit.intOf i).toNat)
   case atStart=>exact⟨1,0,by omega,by omega,by omega,by decide,rfl,rfl,Qh rfl⟩
   case round=>
    obtain⟨k,m,jM,hk,A9,QZ,rfl,rfl,M⟩:=hrel
    by_cases D:k<n
    ·have G:=HC.out k D
     have T:=F1 ((x::l).getD k 0);obtain⟨z,I⟩:∃z:Int,z=(((x::l).getD k 0).toNat:Int):=⟨_,rfl⟩
     rw[←I]at G T;have J:=Qh I;clear I;obtain⟨kh,jS⟩:=T;go_wp2
     case roundEnd=>
      go_round
      case rel=>exact⟨k+1,m*256+z,by omega,by omega,by omega,by omega,by go_num,rfl,Qh (by
       rw[←M.out,FF 256 0 18014398509481984 (x::l) k m (by rw[A.out];exact D) (by rw[←J.out];omega),←J.out,Int.sub_zero])⟩
      case measure=>simp[RowKit.intOf];omega
     go_ret2
     have X:kQ 256 0 18014398509481984 l 0=(0,false):=by
      rw[←M.out];exact FG 256 0 18014398509481984 (x::l) k m (by rw[A.out];exact D) (by rw[←J.out];omega)
     rw[E.out,X];exact⟨rfl,rfl⟩
    ·have nF:Hid (k=n):=Qh (by omega)
     go_wp2;go_ret2
     have X:kQ 256 0 18014398509481984 l 0=(m,decide (m≤4611686018427387904)):=by
      rw[←M.out,nF.out,←A.out,List.drop_length];rfl
     rw[E.out,X];exact⟨rfl,rfl⟩
  ·have Uj:(y==128)=false:=by simpa using N
   have E:Hid (lh (x::l)=kQ 8 48 576460752303423488 (Lib.trimRightS (Lib.trimLeftS (x::l) [32]) [32,0]) 0):=Qh (by rw[lh,if_neg (by rw[←HY.out];exact N)]);clear N
   go_enter Tryz.func63,Tryz.ntmps63
   go_wp2
   go_loop [6] (fun i=>∃(k:Nat),k≤n∧i=.int .i64 k∧Hid (∀q,q<k→(x::l).getD q 0=32)) (fun i=>n - (RowKit.intOf i).toNat)
   case atStart=>exact⟨0,by omega,rfl,Qh (fun q L=>by omega)⟩
   case round=>
    obtain⟨k,hk,rfl,M⟩:=hrel;obtain⟨z,I⟩:∃z:Int,z=(((x::l).getD k 0).toNat:Int):=⟨_,rfl⟩
    have G:k<n→w.cell? ⟨b,o+k,none⟩=some (.int .u8 z):=fun D=>by rw[HC.out k D,I]
    have J:=Qh I;clear I;go_wp2
    case roundEnd=>
     have B:(z==32)=true:=by assumption
     rw[beq_iff_eq]at B;have D:k<n:=by assumption
     go_round
     case rel=>exact⟨k+1,by omega,by go_num,Qh (fun q L=>by
      rcases Nat.lt_succ_iff_lt_or_eq.1 L with h|rfl
      ·exact M.out q h
      ·apply UInt8.toNat_inj.1
       have:=J.out;show _=32
       omega)⟩
     case measure=>simp[RowKit.intOf];omega
    all_goals
     have HS:Hid (k<n→(x::l).getD k 0≠32):=Qh (fun O Y=>by
      have U:=J.out;rw[Y]at U;have B:z=32:=U
      first|omega|(have hf:=‹(z==32)=false›;rw[B]at hf;exact absurd hf (by decide)))
     clear G
     go_loop [7] (fun i=>∃(j:Nat),k≤j∧j≤n∧i=.int .i64 j∧Hid (∀q,j≤q→q<n→(x::l).getD q 0=32∨(x::l).getD q 0=0)) (fun i=>(RowKit.intOf i).toNat)
     case atStart=>exact⟨n,by omega,by omega,rfl,Qh (fun q L V=>by omega)⟩
     case round=>
      obtain⟨j,QY,d,rfl,OG⟩:=hrel;obtain⟨t,u⟩:∃t:Int,t=(((x::l).getD (j - 1) 0).toNat:Int):=⟨_,rfl⟩
      have L4:k<j→w.cell? ⟨b,o+(j - 1),none⟩=some (.int .u8 t):=fun D=>by rw[HC.out (j - 1) (by omega),u]
      have HT:=Qh u;clear u;obtain⟨str,R⟩:∃str:ByteArray,str=⟨(((x::l).drop k).take (j - k)).toArray⟩:=⟨_,rfl⟩
      have W:(((x::l).drop k).take (j - k)).length=j - k:=by rw[Qg,Qe,A.out];omega
      have cv1:(convert 26 9 (.slice (some ⟨b,o+k,none⟩) (j - k) (c - k))).run Tryz.prog w=.ok (.string str) w:=by
       rw[R];refine iR (fun Z=>⟨b,o+k,rfl,fun i hi=>?_⟩) W _ _ _ Tryz.underlying26 Tryz.underlying5 Tryz.underlying9 _;rw[Nat.add_assoc,HC.out (k+i) (by omega)];simp[List.getD,hi]
      have cv2:c=k→(convert 26 9 (.slice (some ⟨b,o,none⟩) (j - k) 0)).run Tryz.prog w=.ok (.string str) w:=fun hck=>by
       rw[R];exact iR (fun Z=>by omega) W _ _ _ Tryz.underlying26 Tryz.underlying5 Tryz.underlying9 _
      have r:str.size≤maxLen:=by
       have e:str.size=j - k:=by rw[R];exact W
       rw[e];unfold maxLen;omega
      have DN:=Qh R;clear R W
      go_wp2_with (go_at_call 95;refine(RB _ _ r).mono ?_;rintro e w' ⟨rfl,rfl⟩)
      all_goals first
       |(go_round
         case rel=>
          have ht2:t=32∨t=0:=by
           first
            |exact Or.inl ‹t=32›
            |(rcases ‹(t==32)=true∨(t==0)=true› with h|h
              ·exact Or.inl (by simpa using h)
              ·exact Or.inr (by simpa using h))
          have aK0:k<j:=by assumption
          refine⟨j - 1,by omega,by omega,by go_num,Qh (fun q L V=>?_)⟩
          by_cases g:q=j - 1
          ·subst g
           have:=HT.out;rcases ht2 with h|h
           ·exact Or.inl (UInt8.toNat_inj.1 (by show _=32;omega))
           ·exact Or.inr (UInt8.toNat_inj.1 (by show _=0;omega))
          ·exact OG.out q (by omega) V
         case measure=>simp[RowKit.intOf];omega)
       |(go_ret2
         have jY:k<j→(x::l).getD (j - 1) 0≠32∧(x::l).getD (j - 1) 0≠0:=fun O=>by
          have hf:¬t=32∧¬t=0:=by
           first
            |(exfalso;omega)
            |(have Z:=‹(t==32)=false∧(t==0)=false›;simpa using Z)
          have:=HT.out;constructor<;>intro h<;>rw[h]at this
          ·exact hf.1 this
          ·exact hf.2 this
         have E3:Lib.trimRightS (Lib.trimLeftS (x::l) [32]) [32,0]=str.data.toList:=by
          rw[DN.out];exact Ia (x::l) k j QY (by rw[A.out];exact d) M.out (fun O=>⟨HS.out (by omega),jY O⟩) (fun q L V=>OG.out q L (by rw[←A.out];exact V)) (fun O=>HS.out (by rw[←A.out];exact O))
         rw[E.out,E3]
         exact⟨rfl,rfl⟩)
end Field
end Go.Proofs.YtdhibldkldlfpaaGreatDoor
