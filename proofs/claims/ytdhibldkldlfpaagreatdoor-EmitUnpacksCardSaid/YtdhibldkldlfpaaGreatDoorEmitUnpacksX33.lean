/- Merged. -/
import Derived.Test.YtdhibldkldlfpaaGreatDoorEmitUnpacksX19
import Derived.Shelf.Unicode.ValidAny
import Derived.Test.YtdhibldkldlfpaaGreatDoorEmitUnpacksX25
import Derived.Test.YtdhibldkldlfpaaGreatDoorEmitUnpacksX31
import Derived.Test.YtdhibldkldlfpaaGreatDoorEmitUnpacksX17
import Derived.Test.YtdhibldkldlfpaaGreatDoorEmitUnpacksX32
namespace Go.Proofs.YtdhibldkldlfpaaGreatDoor
set_option linter.unusedVariables false
set_option maxHeartbeats 8000000
set_option maxRecDepth 100000
open Go.ChangeShapes Go.WideShapes Go.ChangeAt Go.RowKit Base cb iK Go.Lib
variable {e:Ending}
namespace Path
open Go.Shelf ur
theorem FM (l:List UInt8) (w:World) (hm:l.length≤140737488351232) (hT:Tabs w):
 Calls Tryz.prog 148 #[.string (str l)] w fun e w'=>e=.returned (.bool (aQ l))∧Below w.heap.size w w':=by
 have B:=Any.utf8_ValidString Tryz.laysValid (str l) w (by rw[ax];omega) hT;have A:=fun w=>Any.strings_Contains_one Tryz.zo (str l) 0 w
 rw[aS]at B;simp only[aS,vK]at A;rw[DJ];have mixed:Tryz.prog.follows .mixedOrders=true:=by kernel_rfl
 clear hT hm
 cases E:Lib.validD l with
 |false=>
  rw[E]at B;clear A
  go_enter Tryz.func148,Tryz.ntmps148
  go_wp2_with (go_at_call 185;refine B.mono ?_;rintro e G ⟨rfl,D⟩)
  go_ret;exact⟨rfl,D⟩
 |true=>
  rw[E]at B
  cases hc:l.contains 0 with
  |false=>
   rw[hc]at A
   go_enter Tryz.func148,Tryz.ntmps148
   go_wp2_with (first|(go_at_call 185;refine B.mono ?_;rintro e G ⟨rfl,D⟩)|(go_at_call 157;refine(A _).mono ?_;rintro e H ⟨rfl,rfl⟩))
   go_ret;exact⟨rfl,D⟩
  |true=>
   rw[hc]at A
   go_enter Tryz.func148,Tryz.ntmps148
   go_wp2_with (first|(go_at_call 185;refine B.mono ?_;rintro e G ⟨rfl,D⟩)|(go_at_call 157;refine(A _).mono ?_;rintro e H ⟨rfl,rfl⟩))
   go_ret;exact⟨rfl,D⟩
theorem DI (l:List UInt8) (w:World) (hm:l.length≤140737488351232) (hT:Tabs w):
 Calls Tryz.prog 153 #[.string (str l)] w fun e w'=>e=.returned (.int .i64 (iV 9 6 l))∧Below w.heap.size w w':=by
 have A:=FM l w hm hT;have hs:(str l).size=l.length:=ax l;unfold iV;clear hT
 cases D:aQ l with
 |false=>
  rw[D]at A;rw[if_pos rfl];clear hm hs
  go_enter Tryz.func153,Tryz.ntmps153
  go_wp2_with (go_at_call 148;refine A.mono ?_;rintro e E ⟨rfl,B⟩)
  go_ret;exact⟨rfl,B⟩
 |true=>
  rw[D]at A;rw[if_neg (by simp)];obtain⟨n,G⟩:∃n,(str l).size=n:=⟨_,rfl⟩
  by_cases h:l=[]∨200<l.length
  ·have hi:SZ (n:Int) 1 200=false:=by
    refine qE ?_;rw[←G,hs];rcases h with rfl|h
    ·simp
    ·omega
   rw[if_pos h];clear hm hs h
   go_enter Tryz.func153,Tryz.ntmps153
   go_wp2_with (first|(go_at_call 148;refine A.mono ?_;rintro e E ⟨rfl,B⟩)|(go_at_call 152;refine(tA _ _ _ _).mono ?_;rw[hi];rintro e H ⟨rfl,rfl⟩))
   go_ret;exact⟨rfl,B⟩
  ·have hi:SZ (n:Int) 1 200=true:=by
    have:0<l.length:=List.length_pos_iff.2 fun e=>h (.inl e)
    exact oL (by omega) (by omega)
   rw[if_neg h];clear hm hs h
   go_enter Tryz.func153,Tryz.ntmps153
   go_wp2_with (first|(go_at_call 148;refine A.mono ?_;rintro e E ⟨rfl,B⟩)|(go_at_call 152;refine(tA _ _ _ _).mono ?_;rw[hi];rintro e H ⟨rfl,rfl⟩))
   go_ret;exact⟨rfl,B⟩
end Path
namespace Rec
open Go.Shelf Path
theorem tN (l:List UInt8) (w:World) (hm:l.length≤1000000000000) (hT:Tabs w):
 Calls Tryz.prog 142 #[.string (str l)] w fun e w'=>e=.returned (.bool (aQ l))∧Below w.heap.size w w':=by
 have A:=DI l w (by omega) hT;obtain⟨r,D⟩:∃r,iV 9 6 l=r:=⟨_,rfl⟩
 have E:(r != 9)=aQ l:=by
  rw[←D];unfold iV
  cases aQ l with
  |false=>rfl
  |true=>
   rw[if_neg (by simp)];split<;>rfl
 rw[D]at A;clear hT hm D
 cases G:aQ l with
 |false=>
  rw[G]at E
  go_enter Tryz.func142,Tryz.ntmps142
  go_wp2_with (go_at_call 153;refine A.mono ?_;rintro e H ⟨rfl,B⟩)
  go_ret;exact⟨rfl,B⟩
 |true=>
  rw[G]at E
  go_enter Tryz.func142,Tryz.ntmps142
  go_wp2_with (go_at_call 153;refine A.mono ?_;rintro e H ⟨rfl,B⟩)
  go_ret;exact⟨rfl,B⟩
def D4 (l:List UInt8):List UInt8 × List UInt8 × Bool:=
 if 0≤Lib.indexByte l 61 then(l.take (Lib.indexByte l 61).toNat,l.drop ((Lib.indexByte l 61).toNat+1),true)else(l,[],false)
theorem Nt (l:List UInt8) (w:World) (hm:l.length≤1000000000000):
 Calls Tryz.prog 181 #[.string (str l),.string ⟨#[61]⟩] w fun e w'=>e=.returned (.tuple #[.string (str (D4 l).1),.string (str (D4 l).2.1),.bool (D4 l).2.2])∧∃n,w'=w.drewN n:=by
 have A:=Any.stringslite_Index_one Tryz.zp (str l) 61 w;rw[aS]at A;have hs:(str l).size=l.length:=ax l;unfold D4
 by_cases h:0≤Lib.indexByte l 61
 ·obtain⟨k,hk⟩:∃k:Nat,Lib.indexByte l 61=k:=⟨(Lib.indexByte l 61).toNat,by omega⟩
  have G:=(List.getElem?_eq_some_iff.1 (Lib.indexByte_some hk).1).1;rw[if_pos h,hk,Int.toNat_natCast];rw[hk]at A;clear h hk;simp only;have B:(str l).extract 0 k=str (l.take k):=yH l k;have D:(str l).extract (k+1) (str l).size=str (l.drop (k+1)):=DG l (k+1) _ hs;rw[←B,←D];have c1:(0:Int)≤(k:Int):=by omega
  have c2:(k:Int)≤((str l).size:Int):=by omega
  have c3:(0:Int)≤(k:Int)+1:=by omega
  have H:(k:Int)+1≤((str l).size:Int):=by omega
  have c5:((str l).size:Int)≤1000000000000:=by omega
  clear B D;have mixed:Tryz.prog.follows .mixedOrders=true:=by kernel_rfl
  go_enter Tryz.func181,Tryz.ntmps181
  go_wp2_with (go_at_call 208;refine A.mono ?_;rintro e w' ⟨rfl,rfl⟩)
  go_region_o
  go_wp2
  go_ret3
  exact⟨rfl,1,rfl⟩
 ·rw[if_neg h]
  have E:Lib.indexByte l 61=-1:=by have:=Lib.indexByte_ge l 61;omega
  rw[E]at A;clear h E
  go_enter Tryz.func181,Tryz.ntmps181
  go_wp2_with (go_at_call 208;refine A.mono ?_;rintro e w' ⟨rfl,rfl⟩)
  go_ret3
  exact⟨rfl,0,rfl⟩
theorem TY (l:List UInt8) (w:World) (hm:l.length≤1000000000000):
 Calls Tryz.prog 141 #[.string (str l),.string ⟨#[61]⟩] w fun e w'=>e=.returned (.tuple #[.string (str (D4 l).1),.string (str (D4 l).2.1),.bool (D4 l).2.2])∧∃n,w'=w.drewN n:=by
 have hc:=Nt l w hm
 go_enter Tryz.func141,Tryz.ntmps141
 go_wp2_with (go_at_call 181;refine hc.mono ?_;rintro e w' ⟨rfl,n,rfl⟩)
 go_ret3
 exact⟨rfl,n,rfl⟩
theorem Hm (k v:List UInt8) (w:World) (hk:k.length≤1000000000000) (hv:v.length≤1000000000000) (hN:Need w):
 Calls Tryz.prog 155 #[.agg #[.string (str k),.string (str v)]] w fun e w'=>e=.returned (.bool (pk k v))∧Below w.heap.size w w':=by
 obtain⟨a,ha⟩:∃a,a=str k:=⟨_,rfl⟩
 obtain⟨b,V⟩:∃b,b=str v:=⟨_,rfl⟩
 have R:Hid (a.size=k.length∧b.size=v.length):=Qh ⟨by rw[ha,ax],by rw[V,ax]⟩;have o:(a.size:Int)≤1000000000000:=by have:=R.out;omega
 have q:(b.size:Int)≤1000000000000:=by have:=R.out;omega
 obtain⟨M,c⟩:∃M,pk k v=M:=⟨_,rfl⟩
 have X:=Qh c;rw[c];obtain⟨c0,c1⟩:=wY w 121 (.string a) (.string b);have D:Hid (Below w.heap.size w (w.alloc (.cells #[.string a,.string b] 121))):=Qh ((Below.refl _ _).alloc (Qk _) _);have L:=Qh hN.Hy;have l:=fun w=>Any.strings_Contains_one Tryz.zo a 61 w
 have H:=fun f h=>tN k f hk h
 have I:=fun f h=>tN v f hv h
 rw[←ha]at H;rw[←V]at I
 have hi:∀w,Calls Tryz.prog 157 #[.string a,.string ⟨#[61]⟩] w fun e w'=>e=.returned (.bool (k.contains 61))∧w'=w:=by
  intro w;have:=l w
  rwa [show a.data.toList=k by rw[ha,aS],vK]at this
 have N:=Qh H;have T:=Qh I;have HC:=Qh hi;have he:a.toList.isEmpty=k.isEmpty:=by rw[ha,ak]
 rw[←ha,←V];clear c hN l hi H I ha V
 by_cases h1:k=[]
 ·obtain rfl:false=M:=by rw[←X.out,h1];rfl
  have Z:a.toList.isEmpty=true:=by rw[he,h1];rfl
  clear h1 he hk hv
  go_enter Tryz.func155,Tryz.ntmps155
  go_wp2;go_ret;exact⟨rfl,D.out⟩
 ·have B:k.isEmpty=false:=by
   cases h:k with
   |nil=>exact absurd h h1
   |cons _ _=>rfl
  have Z:a.toList.isEmpty=false:=by rw[he,B]
  cases U:k.contains 61 with
  |true=>
   obtain rfl:false=M:=by rw[←X.out];unfold pk;rw[U];rfl
   rw[U]at HC;clear h1 he hk hv B
   go_enter Tryz.func155,Tryz.ntmps155
   go_wp2_with fail
   refine(HC.out _).mono ?_;rintro e w' ⟨rfl,rfl⟩;go_wp2;go_ret;exact⟨rfl,D.out⟩
  |false=>
   rw[U]at HC
   have Y:Hid ((aQ k&&aQ v&&decide (k.length+v.length≤100000))=M):=Qh (by
    have:=X.out;simp only[pk,U,B,Bool.not_false,Bool.true_and]at this
    exact this)
   cases O:aQ k with
   |false=>
    obtain rfl:false=M:=by rw[←Y.out,O];rfl
    rw[O]at N;clear h1 he hk hv B
    go_enter Tryz.func155,Tryz.ntmps155
    go_wp2_with fail
    refine(HC.out _).mono ?_;rintro e w' ⟨rfl,rfl⟩;go_wp2_with fail;refine(N.out _ (L.out.below D.out)).mono ?_;rintro e g ⟨rfl,A⟩;have E:=Qh (D.out.trans (A.mono D.out.size));clear A;go_wp2;go_ret;exact⟨rfl,E.out⟩
   |true=>
    rw[O]at N
    cases G:aQ v with
    |false=>
     obtain rfl:false=M:=by rw[←Y.out,O,G];rfl
     rw[G]at T;clear h1 he hk hv B
     go_enter Tryz.func155,Tryz.ntmps155
     go_wp2_with fail
     refine(HC.out _).mono ?_;rintro e w' ⟨rfl,rfl⟩;go_wp2_with fail;refine(N.out _ (L.out.below D.out)).mono ?_;rintro e g ⟨rfl,A⟩;have d0:=(A.cell (p:=⟨w.heap.size,0,none⟩) (by rw[World.size_alloc];exact Nat.lt_succ_self _)).trans c0;have d1:=(A.cell (p:=⟨w.heap.size,1,none⟩) (by rw[World.size_alloc];exact Nat.lt_succ_self _)).trans c1;have E:=Qh (D.out.trans (A.mono D.out.size));clear A c0 c1;go_wp2_with fail;refine(T.out _ (L.out.below E.out)).mono ?_;rintro e w3 ⟨rfl,J⟩;have d:=Qh (E.out.trans (J.mono E.out.size));clear J;go_wp2;go_ret;exact⟨rfl,d.out⟩
    |true=>
     have m:decide ((a.size:Int)+(b.size:Int)≤100000)=M:=by
      rw[←Y.out,O,G,R.out.1,R.out.2];simp;omega
     rw[G]at T;clear h1 he hk hv B
     go_enter Tryz.func155,Tryz.ntmps155
     go_wp2_with fail
     refine(HC.out _).mono ?_;rintro e w' ⟨rfl,rfl⟩;go_wp2_with fail;refine(N.out _ (L.out.below D.out)).mono ?_;rintro e g ⟨rfl,A⟩;have d0:=(A.cell (p:=⟨w.heap.size,0,none⟩) (by rw[World.size_alloc];exact Nat.lt_succ_self _)).trans c0;have d1:=(A.cell (p:=⟨w.heap.size,1,none⟩) (by rw[World.size_alloc];exact Nat.lt_succ_self _)).trans c1;have E:=Qh (D.out.trans (A.mono D.out.size));clear c0 c1;go_wp2_with fail;refine(T.out _ (L.out.below E.out)).mono ?_;rintro e w3 ⟨rfl,J⟩;have W:w.heap.size<g.heap.size:=Nat.lt_of_lt_of_le (by rw[World.size_alloc];exact Nat.lt_succ_self _) A.size;have r:=(J.cell (p:=⟨w.heap.size,0,none⟩) W).trans d0;have t:=(J.cell (p:=⟨w.heap.size,1,none⟩) W).trans d1;have d:=Qh (E.out.trans (J.mono E.out.size));clear A J d0 d1 W;go_wp2;go_ret;exact⟨rfl,d.out⟩
end Rec
namespace Rec
open Path
theorem AB (k v:List UInt8) (w:World) (hk:k.length≤1000000000000) (hv:v.length≤1000000000000) (OB:k.length+v.length≤1000000000000) (hN:Need w):
 Calls Tryz.prog 126 #[.agg #[.string (str k),.string (str v)]] w fun e w'=>
  e=.returned (.tuple #[.string (str (if pk k v then jy k v else[])),.bool (pk k v)])∧Below w.heap.size w w':=by
 have G:=Qh (fun O h=>Hm k v O hk hv h);have N:=Qh hN;obtain⟨a,ha⟩:∃a,a=str k:=⟨_,rfl⟩
 obtain⟨b,M⟩:∃b,b=str v:=⟨_,rfl⟩
 obtain⟨n1,W⟩:∃n,a.size=n:=⟨_,rfl⟩
 obtain⟨n2,V⟩:∃n,b.size=n:=⟨_,rfl⟩
 have m1:k.length=n1:=by rw[←W,ha,ax]
 have m2:v.length=n2:=by rw[←V,M,ax]
 have f:(⟨#[32]⟩:ByteArray)++a++⟨#[61]⟩++b++⟨#[10]⟩=str (pJ k v):=by
  rw[ha,M,show(⟨#[32]⟩:ByteArray)=str [32]from rfl,show(⟨#[61]⟩:ByteArray)=str [61]from rfl,show(⟨#[10]⟩:ByteArray)=str [10]from rfl,iK.lu,iK.lu,iK.lu,iK.lu];simp[pJ]
 have s1:1+n1≤9223372036854775807:=by omega
 have s2:1+n1+1≤9223372036854775807:=by omega
 have c:1+n1+1+n2≤9223372036854775807:=by omega
 have d:1+n1+1+n2+1≤9223372036854775807:=by omega
 obtain⟨B,J⟩:∃B,B=str (pJ k v):=⟨_,rfl⟩
 obtain⟨m,hm⟩:∃m,m=(pJ k v).length:=⟨_,rfl⟩
 have Y:B.size=m:=by rw[J,ax,hm]
 have U:m=n1+n2+3:=by rw[hm,qj,m1,m2]
 rw[←J]at f;obtain⟨D,L⟩:∃D,D=str (aM (pO m)):=⟨_,rfl⟩
 have T:Hid (str (jy k v)=D++B):=Qh (by rw[J,L,iK.lu,jy,hm])
 have Z:D.size+m≤9223372036854775807:=by
  have h1:=CK m (by omega);have g:=yk m;have l:=uA m 18 (by omega) (by omega);rw[L,ax];omega
 have HC:Hid (∀w,Need w→Calls Tryz.prog 156 #[.int .i64 (m:Int)] w fun e w'=>e=.returned (.string D)∧Below w.heap.size w w'):=Qh (fun w h=>by
  rw[L]
  exact Hl m w (by omega) (by omega) h)
 rw[←ha,←M]at G⊢;obtain⟨c0,c1⟩:=wY w 121 (.string a) (.string b);have E:Hid (Below w.heap.size w (w.alloc (.cells #[.string a,.string b] 121))):=Qh ((Below.refl _ _).alloc (Qk _) _);clear m1 m2 J hm U OB hk hv hN ha M L
 cases I:pk k v with
 |true=>
  rw[I]at G;rw[if_pos rfl,T.out];clear I
  go_enter Tryz.func126,Tryz.ntmps126
  go_wp2_with fail
  refine(G.out _ (N.out.below E.out)).mono ?_;rintro e O ⟨rfl,A⟩;have d0:=(A.cell (p:=⟨w.heap.size,0,none⟩) (by rw[World.size_alloc];exact Nat.lt_succ_self _)).trans c0;have d1:=(A.cell (p:=⟨w.heap.size,1,none⟩) (by rw[World.size_alloc];exact Nat.lt_succ_self _)).trans c1;have H:=Qh (E.out.trans (A.mono E.out.size));clear A c0 c1;go_wp2_with fail;refine(HC.out _ (N.out.below H.out)).mono ?_;rintro e o ⟨rfl,R⟩;have X:=Qh (H.out.trans (R.mono H.out.size));clear R s1 s2 c d;go_wp2;go_ret2;exact⟨rfl,X.out⟩
 |false=>
  rw[I]at G;rw[if_neg (by simp)];clear I
  go_enter Tryz.func126,Tryz.ntmps126
  go_wp2_with fail
  refine(G.out _ (N.out.below E.out)).mono ?_;rintro e O ⟨rfl,A⟩;have H:=Qh (E.out.trans (A.mono E.out.size));clear A;go_wp2;go_ret2;exact⟨rfl,H.out⟩
theorem Ke (k v:List UInt8) (w:World) (hm:pk k v=true) (OB:k.length+v.length≤1000000000000) (hN:Need w):
 Calls Tryz.prog 126 #[.agg #[.string (str k),.string (str v)]] w fun e w'=>e=.returned (.tuple #[.string (str (jy k v)),.bool true])∧Below w.heap.size w w':=by
 have:=AB k v w (by omega) (by omega) OB hN
 rwa [hm,if_pos rfl]at this
theorem Nd (k v:List UInt8) (w:World) (hm:pk k v=false) (OB:k.length+v.length≤1000000000000) (hN:Need w):
 Calls Tryz.prog 126 #[.agg #[.string (str k),.string (str v)]] w fun e w'=>e=.returned (.tuple #[.string (str []),.bool false])∧Below w.heap.size w w':=by
 have:=AB k v w (by omega) (by omega) OB hN
 rwa [hm,if_neg (by simp)]at this
theorem MB (rs:List (List UInt8 × List UInt8)) (j:Nat) (h:j<rs.length):bc (rs.take (j+1))=bc (rs.take j)++jy (rs.getD j ([],[])).1 (rs.getD j ([],[])).2:=by
 rw[List.take_add_one,Qd h,List.getD,Qd h];simp only[Option.toList,bc,List.map_append,List.flatten_append,List.map_cons,List.map_nil,List.flatten_cons,List.flatten_nil,List.append_nil,Option.getD_some]
theorem T7 (rs:List (List UInt8 × List UInt8)) (j:Nat) (h:j<rs.length):rs.getD j ([],[])∈rs:=by
 rw[List.getD,Qd h];exact List.getElem_mem h
theorem We (rs:List (List UInt8 × List UInt8)) (j:Nat) (h:j<rs.length) (P:List UInt8 × List UInt8→Prop) (h1:∀r∈rs.take j,P r) (h2:P (rs.getD j ([],[]))):∀r∈rs.take (j+1),P r:=by
 intro r A;rw[List.take_add_one,Qd h]at A;rcases List.mem_append.1 A with h3|h3
 ·exact h1 r h3
 ·rw[List.getD,Qd h]at h2
  simp at h3;rw[h3];exact h2
theorem Rk (l:List (List UInt8 × List UInt8)) (h:∀r∈l,pk r.1 r.2=true):(bc l).length≤100010*l.length:=by
 induction l with
 |nil=>simp[bc]
 |cons r l ih=>
  have h1:=ih fun x B=>h x (List.mem_cons_of_mem _ B)
  have A:=h r (by simp);obtain⟨d,_,_,_,_,E,_,hl⟩:=xj A;have D:=(sJ A).2.2.2.2;have e:bc (r::l)=jy r.1 r.2++bc l:=by simp[bc]
  rw[e,Qf,List.length_cons];omega
theorem Vz (a b:List UInt8):nums (a++b)=nums a++nums b:=by simp[nums]
theorem Hw (l:List UInt8):strCells (str l)=(nums l).map (Value.int .u8):=by
 unfold strCells nums;rw[aS,List.map_map];rfl
def XE (rs:List (List UInt8 × List UInt8)) (w:World) (e:Ending) (w':World):Prop:=
 ((∀r∈rs,pk r.1 r.2=true)→∃p c,e=.returned (.tuple #[.slice p (bc rs).length c,.bool true])∧(bc rs).length≤c∧c≤maxLen∧iC w' p (bc rs).length (bc rs)∧(∀x,p=some x→w.heap.size≤x.block))∧
   ((∃r∈rs,pk r.1 r.2=false)→e=.returned (.tuple #[.slice none 0 0,.bool false]))∧Below w.heap.size w w'
theorem UU:(Tryz.prog.info? 5).map (fun i=>(i.zero,i.size,i.bytes))=some (some (.int .u8 0),1,1):=by kernel_rfl
theorem Nf (p:Option Addr) (n c:Nat) (rs:List (List UInt8 × List UInt8)) (w:World) (hm:n≤1000000000) (h:bG w p n rs) (hsz:∀r∈rs,r.1.length+r.2.length≤1000000000000) (hN:Need w):
 Calls Tryz.prog 82 #[.slice p n c] w (XE rs w):=by
 have H:=Qh h;have U:=Qh h.1;have jo:=Qh hsz;have z:=Qh hN;obtain⟨i0,hi,kh,jS,jU⟩:=info_parts UU;have HI:=Qh hi;have rC:=Qh kh;have pX:=Qh jS;have pD:=Qh jU;have HM:=Qh hm;have hmi:(n:Int)≤1000000000:=by omega
 clear h hsz hN hi kh jS jU hm
 go_enter Tryz.func82,Tryz.ntmps82
 go_wp2_with fail
 go_loopw [4,11] (fun o i wr=>∃(j:Nat),j≤n∧i=.int .i64 (j:Int)∧Hid (wr.ownsRow w.heap.size 5 1 o (bc (rs.take j)).length ((nums (bc (rs.take j))).map (Value.int .u8)))∧Hid (∀r∈rs.take j,pk r.1 r.2=true)∧Hid (Below w.heap.size w wr)) (fun _ i _=>n - (RowKit.intOf i).toNat)
 case atStart=>exact⟨0,Nat.zero_le _,rfl,Qh (World.ownsRow_nil _ _ _ _),Qh (by simp),Qh (Below.refl _ _)⟩
 case round=>
  obtain⟨j,hj,rfl,aK,B,W⟩:=hrel
  by_cases M:j<n
  ·obtain⟨b1,o1,rfl,ch,nI⟩:=(H.out.below W.out).2 (by omega)
   obtain⟨x0,x1⟩:=nI j M;obtain⟨u,hu⟩:∃u,rs.getD j ([],[])=u:=⟨_,rfl⟩
   rw[hu,Nat.mul_comm]at x0 x1;have HU:=Qh hu;have Tg:Hid (u∈rs):=Qh (by rw[←hu];exact T7 rs j (by rw[U.out];exact M));have qX:(j:Int)<(n:Int):=by omega
   have I:=Qh (jo.out u Tg.out);have E:Hid (Below w.heap.size w (wr.alloc (.cells #[.string (str u.1),.string (str u.2)] 121))):=Qh (W.out.alloc W.out.size _);have HJ:=Qh M;have yP:Hid (Below wr.heap.size wr (wr.alloc (.cells #[.string (str u.1),.string (str u.2)] 121))):=Qh ((Below.refl _ _).alloc (Qk _) _);clear nI hu ch
   cases D:pk u.1 u.2 with
   |false=>
    have f:=Qh (fun R h1=>Nd u.1 u.2 R D I.out h1);have zQ:Hid (∃r∈rs,pk r.1 r.2=false):=Qh ⟨u,Tg.out,D⟩;clear D;go_wp2_with fail;refine(f.out _ (z.out.below E.out)).mono ?_;rintro e R ⟨rfl,A⟩;have N:=Qh (E.out.trans (A.mono E.out.size));clear A;go_wp2;go_ret2;refine⟨fun h=>?_,fun _=>rfl,N.out⟩;obtain⟨r,y,O⟩:=zQ.out;rw[h r y]at O
    cases O
   |true=>
    have f:=Qh (fun R h1=>Ke u.1 u.2 R D I.out h1);obtain⟨L,X⟩:∃L,str (jy u.1 u.2)=L:=⟨_,rfl⟩
    have HL:=Qh X;have Wy:Hid (L.size=(jy u.1 u.2).length):=Qh (by rw[←X,ax]);have V:Hid (∀r∈rs.take (j+1),pk r.1 r.2=true):=Qh (We rs j (by rw[U.out];exact M) _ B.out (by rw[HU.out];exact D));have kE:Hid (bc (rs.take (j+1))=bc (rs.take j)++jy u.1 u.2):=Qh (by rw[MB rs j (by rw[U.out];exact M),HU.out])
    have J:Hid ((bc (rs.take j)).length+L.size≤140737488351232):=Qh (by
     have h1:=Rk _ V.out;rw[kE.out,Qf,Qg]at h1;have:=HM.out;have:=Wy.out;have:min (j+1) rs.length≤1000000000:=by omega
     omega)
    clear D;go_wp2_with fail;refine(f.out _ (z.out.below E.out)).mono ?_;rw[X];rintro e R ⟨rfl,A⟩;have N:=Qh (E.out.trans (A.mono E.out.size));have Iv:=Qh (iD aK.out (yP.out.trans (A.mono yP.out.size)));clear A X
    go_wp2_with (at_builtin;refine wpList_append_own_string _ rfl _ _ 26 9 rfl w.heap.size 5 i0 Tryz.underlying26 Tryz.underlying9 HI.out rC.out pX.out pD.out _ _ _ rfl Iv.out L rfl (by have:=J.out;unfold maxLen;omega) (by have:=J.out;omega) N.out.size ?_)
    intro v' w2 oI aU _
    have DX:Hid (w2.ownsRow w.heap.size 5 1 v' (bc (rs.take (j+1))).length ((nums (bc (rs.take (j+1)))).map (Value.int .u8))):=Qh (by
     rw[kE.out,Qf,←Wy.out,Vz,List.map_append,←Hw (jy u.1 u.2),HL.out]
     exact oI)
    have m:Hid (Below w.heap.size w w2):=Qh (N.out.grown aU N.out.size (fun b Y=>by
     rcases Iv.out.2 with⟨rfl,_⟩|⟨g,cap,cur,rfl,A,_⟩
     ·cases Y
     ·cases Y;exact A))
    clear oI aU;go_wp2_with fail;go_roundw
    case rel=>exact⟨j+1,by omega,by go_num,DX,V,m⟩
    case measure=>simp[RowKit.intOf];omega
  ·have uh:¬((j:Int)<(n:Int)):=by omega
   have d:Hid (rs.take j=rs):=Qh (List.take_of_length_le (by rw[U.out];omega));have T:=aK.out;have l:=B.out;rw[d.out]at T l;obtain⟨q,cq,rfl,h1,h2,t,h4⟩:=wU T (O2 _)
   have OE:∀x,q=some x→w.heap.size≤x.block:=fun x G=>by
    rcases T.2 with⟨h,_⟩|⟨g,cap,cur,h,Y,_⟩
    ·simp only[Value.slice.injEq]at h
     rw[h.1]at G
     cases G
    ·simp only[Value.slice.injEq]at h
     rw[h.1]at G
     cases G
     exact Y
   have Xs:=Qh OE;clear OE;rw[qk]at t;have Z:=Qh (And.intro h1 (And.intro h2 t));have V:=Qh l;clear h1 h2 t h4 T l;go_wp2;go_ret2;refine⟨fun _=>⟨q,cq,rfl,Z.out.1,Z.out.2.1,Z.out.2.2,Xs.out⟩,fun G=>?_,W.out⟩;obtain⟨r,y,O⟩:=G;rw[V.out r y]at O
   cases O
theorem XO {l t:List UInt8} {m:Nat} (h:xT l=some (t,m)):m≤l.length∧0<m∧t.length≤l.length:=by
 unfold xT at h;split at h
 ·cases h
 ·split at h
  ·cases h
  ·split at h
   ·cases h
   ·cases h
    refine⟨by omega,by omega,?_⟩;rw[Qg,Qe];omega
theorem Kc (p:Option Addr) (n c:Nat) (bs:List UInt8) (w:World) (h0:0<n) (hn:bs.length=n) (hc:n≤c) (hm:n≤1000000000000) (h:iC w p n bs) (hN:Need w):
 Calls Tryz.prog 140 #[.slice p n c] w fun e w'=>e=.returned (xa (xT bs))∧Below w.heap.size w w':=by
 obtain⟨b,o,rfl,hcell⟩:=h h0;exact Nc b o n c bs w hn hc hm h hN
theorem tM (p0:Option Addr) (n0 c0:Nat) (bs:List UInt8) (w:World) (hn:bs.length=n0) (hc:n0≤c0) (hm:n0≤1000000000000) (h:iC w p0 n0 bs) (hN:Need w):
 Calls Tryz.prog 110 #[.slice p0 n0 c0] w (IB 5 9 bs w):=by
 have H:=Qh h;have O:=Qh hN;have HN:=Qh hn;have d:=Qh hm;have HC0:=Qh hc;obtain⟨i0,hi,kh,jS,jU⟩:=info_parts BB;have HI:=Qh hi;have rC:=Qh kh;have pX:=Qh jS;have pD:=Qh jU;clear h hn hi kh jS jU hN hm hc
 go_enter Tryz.func110,Tryz.ntmps110
 go_wp2_with fail
 go_loopw [0,4] (fun b o wr=>∃(l:List UInt8) (p:Option Addr) (n c:Nat) (acc:List (List UInt8 × List UInt8)),b=.slice p n c∧n≤c∧Hid (l.length=n)∧Hid (iC w p n l)∧Hid (wr.ownsRow w.heap.size 121 2 o acc.length (iQ acc))∧Hid (lg 5 9 l acc=aO 5 9 bs)∧Hid (acc.length+n≤n0)∧Hid (Below w.heap.size w wr)) (fun b _ _=>match b with|.slice _ n _=>n|_=>0)
 case atStart=>exact⟨bs,p0,n0,c0,[],rfl,HC0.out,HN,H,Qh (World.ownsRow_nil _ _ _ _),Qh rfl,Qh (by simp),Qh (Below.refl _ _)⟩
 case round=>
  obtain⟨l,p,n,c,acc,rfl,L3,U,Y,aK,hr,hlen,A⟩:=hrel
  by_cases WN:n=0
  ·subst WN
   have hl:l=[]:=List.length_eq_zero_iff.1 U.out;have hG:Hid (aO 5 9 bs=(acc,0)):=Qh (by rw[←hr.out,hl,tO]);obtain⟨q,cq,rfl,h1,r,h3⟩:=ru aK.out;have H3:=Qh (And.intro h1 (And.intro r h3));clear hl h1 r h3;go_wp2;go_ret2;refine⟨q,cq,by rw[hG.out];rfl,?_,H3.out.2.1,?_,A.out⟩
   ·rw[hG.out];exact H3.out.1
   ·rw[hG.out];exact H3.out.2.2
  ·have D9:(0:Int)<(n:Int):=by omega
   have az0:Hid (0<n):=Qh (by omega);have vT:Hid (l≠[]):=Qh (fun e=>by have:=U.out;rw[e]at this;exact WN (by simpa using this.symm));have KJ:(n:Int)≤1000000000000:=by have:=hlen.out;have:=d.out;omega
   have HG:Hid (∀er,aZ 5 9 l=.error er→aO 5 9 bs=([],er)):=Qh (fun er he=>by rw[←hr.out,kM 5 9 l vT.out,he]);have N:=Qh (fun B h1 r=>Kc p n c l B az0.out U.out L3 (by omega) h1 r);have Z:=Qh (Hn 5 9 l);clear WN
   cases hcut:xT l with
   |none=>
    rw[hcut]at N Z;have E:Hid (aO 5 9 bs=([],5)):=Qh (HG.out 5 Z.out);clear hcut;go_wp2_with fail;refine(N.out _ (Y.out.below A.out) (O.out.below A.out)).mono ?_;unfold xa;rintro e B ⟨rfl,D⟩;have L:=Qh (A.out.trans (D.mono A.out.size));clear D;go_wp2;go_ret2;exact yD 5 9 bs w _ 5 E.out L.out
   |some x=>
    obtain⟨t,m⟩:=x;obtain⟨hml,A9,OI⟩:=XO hcut;rw[hcut]at N Z;have Xr:Hid (m≤n∧0<m):=Qh (by have:=U.out;omega);have hmn:(m:Int)≤(n:Int):=by have:=Xr.out;omega
    have aI5:(0:Int)<(m:Int):=by omega
    have f:t.length≤1000000000000:=by have:=U.out;omega
    have vz:=Qh f;have HQ:=Qh (fun B=>TY t B vz.out);have I:=Qh (fun B h1=>tN t B vz.out h1);clear hcut hml A9 OI f
    by_cases T:Lib.indexByte t 61<1
    ·have E:Hid (aO 5 9 bs=([],5)):=Qh (HG.out 5 (by
      rw[Z.out];simp only
      rw[if_pos T]))
     by_cases J:0≤Lib.indexByte t 61
     ·have hz:Lib.indexByte t 61=0:=by omega
      have V:Hid (∀w,Calls Tryz.prog 141 #[.string (str t),.string ⟨#[61]⟩] w fun e w'=>e=.returned (.tuple #[.string ⟨#[]⟩,.string (str (t.drop 1)),.bool true])∧∃n,w'=w.drewN n):=Qh (fun B=>by
       have:=HQ.out B;unfold D4 at this;rw[if_pos J,hz]at this
       exact this)
      clear T J hz;go_wp2_with fail;refine(N.out _ (Y.out.below A.out) (O.out.below A.out)).mono ?_;unfold xa;rintro e B ⟨rfl,D⟩;have L:=Qh (A.out.trans (D.mono A.out.size));clear D;go_wp2_with fail;refine(V.out _).mono ?_;rintro e w2 ⟨rfl,M,rfl⟩;have G:=Qh (below_drewN L.out M);go_wp2;go_ret2;exact yD 5 9 bs w _ 5 E.out G.out
     ·have V:Hid (∀w,Calls Tryz.prog 141 #[.string (str t),.string ⟨#[61]⟩] w fun e w'=>e=.returned (.tuple #[.string (str t),.string (str []),.bool false])∧∃n,w'=w.drewN n):=Qh (fun B=>by
       have:=HQ.out B;unfold D4 at this;rw[if_neg J]at this
       exact this)
      clear T J;go_wp2_with fail;refine(N.out _ (Y.out.below A.out) (O.out.below A.out)).mono ?_;unfold xa;rintro e B ⟨rfl,D⟩;have L:=Qh (A.out.trans (D.mono A.out.size));clear D;go_wp2_with fail;refine(V.out _).mono ?_;rintro e w2 ⟨rfl,M,rfl⟩;have G:=Qh (below_drewN L.out M);go_wp2;go_ret2;exact yD 5 9 bs w _ 5 E.out G.out
    ·obtain⟨k,hk⟩:∃k:Nat,Lib.indexByte t 61=k:=⟨(Lib.indexByte t 61).toNat,by omega⟩
     obtain⟨kk,y⟩:∃kk,t.take k=kk:=⟨_,rfl⟩
     obtain⟨vv,z⟩:∃vv,t.drop (k+1)=vv:=⟨_,rfl⟩
     have nF:=(List.getElem?_eq_some_iff.1 (Lib.indexByte_some hk).1).1
     have aK1:(str kk).toList.isEmpty=false:=by
      rw[bh,decide_eq_false_iff_not,←y];intro e;have:=congrArg List.length e;rw[Qg,List.length_nil]at this;omega
     have V:Hid (∀w,Calls Tryz.prog 141 #[.string (str t),.string ⟨#[61]⟩] w fun e w'=>e=.returned (.tuple #[.string (str kk),.string (str vv),.bool true])∧∃n,w'=w.drewN n):=Qh (fun B=>by
      have:=HQ.out B;unfold D4 at this;rw[if_pos (by omega),hk,Int.toNat_natCast]at this;simp only[y,z]at this
      exact this)
     cases W:aQ t with
     |false=>
      rw[W]at I
      have E:Hid (aO 5 9 bs=([],9)):=Qh (HG.out 9 (by
       rw[Z.out];simp only
       rw[if_neg T,if_pos W]))
      clear T hk y z W nF;go_wp2_with fail;refine(N.out _ (Y.out.below A.out) (O.out.below A.out)).mono ?_;unfold xa;rintro e B ⟨rfl,D⟩;have L:=Qh (A.out.trans (D.mono A.out.size));clear D;go_wp2_with fail;refine(V.out _).mono ?_;rintro e w2 ⟨rfl,M,rfl⟩;have G:=Qh (below_drewN L.out M);go_wp2_with fail;refine(I.out _ (O.out.below G.out).Hy).mono ?_;rintro e w3 ⟨rfl,X⟩;have nP:=Qh (G.out.trans (X.mono G.out.size));clear X;go_wp2;go_ret2;exact yD 5 9 bs w _ 9 E.out nP.out
     |true=>
      rw[W]at I
      have DN:Hid (lg 5 9 (l.drop m) (acc++[(kk,vv)])=aO 5 9 bs):=Qh (by
       rw[←hr.out,kM 5 9 l vT.out,Z.out];simp only;rw[if_neg T,if_neg (by rw[W];simp),hk,Int.toNat_natCast]
       simp only[y,z])
      have Pl:Hid (iC w (if c=m then p else p.map (·.add m)) (n - m) (l.drop m)):=Qh (Y.out.drop Xr.out.1 L3 U.out);have HLD:Hid ((l.drop m).length=n - m):=Qh (by rw[Qe,U.out]);clear T hk y z W nF;go_wp2_with fail;refine(N.out _ (Y.out.below A.out) (O.out.below A.out)).mono ?_;unfold xa;rintro e B ⟨rfl,D⟩;have L:=Qh (A.out.trans (D.mono A.out.size));have Ex:=Qh (iD aK.out D);clear D;go_wp2_with fail;refine(V.out _).mono ?_;rintro e w2 ⟨rfl,M,rfl⟩;have G:=Qh (below_drewN L.out M);have HO2:=Qh (iD Ex.out (below_drewN (Below.refl B.heap.size B) M));go_wp2_with fail;refine(I.out _ (O.out.below G.out).Hy).mono ?_;rintro e w3 ⟨rfl,X⟩;have nP:=Qh (G.out.trans (X.mono G.out.size));have Ti:=Qh (iD HO2.out X);clear X;have DX:Hid (World.ownsRow (w3.alloc (.cells #[.string (str kk),.string (str vv)] 121)) w.heap.size 121 2 u4 acc.length (iQ acc)):=Qh (Ti.out.alloc _);have sU:Hid (Below w.heap.size w (w3.alloc (.cells #[.string (str kk),.string (str vv)] 121))):=Qh (nP.out.alloc nP.out.size _)
      have yL:Hid (∀j u,([Value.string (str kk),.string (str vv)]:List Value)[j]? =some u→(w3.alloc (.cells #[.string (str kk),.string (str vv)] 121)).cell? ((⟨w3.heap.size,0,none⟩:Addr).add j)=some u):=Qh (fun j u R=>by
       obtain⟨g0,g1⟩:=wY w3 121 (.string (str kk)) (.string (str vv))
       match j,R with
       |0,R=>cases R;exact g0
       |1,R=>cases R;exact g1
       |j+2,R=>simp at R)
      have Pk:Hid (acc.length+1≤1000000000001):=Qh (by have:=hlen.out;have:=d.out;omega);have Tm:Hid (w.heap.size≤(w3.alloc (.cells #[.string (str kk),.string (str vv)] 121)).heap.size):=Qh sU.out.size
      go_wp2_with (at_builtin;refine wpList_append_own _ rfl _ _ 64 rfl w.heap.size 121 i0 (.agg #[.string ⟨#[]⟩,.string ⟨#[]⟩]) 2 32 Tryz.underlying64 HI.out rC.out pX.out pD.out rfl (by decide) _ acc.length (iQ acc) rfl DX.out ⟨w3.heap.size,0,none⟩ 1 1 [.string (str kk),.string (str vv)] rfl rfl yL.out (by
       intro u hu;rcases List.mem_cons.1 hu with rfl|hu
       ·rfl
       ·rcases List.mem_cons.1 hu with rfl|hu
        ·rfl
        ·(cases hu)) (by have:=Pk.out;unfold maxLen;omega) (by have:=Pk.out;omega) Tm.out ?_)
      intro v' w4 oI aU _
      have Iv:Hid (w4.ownsRow w.heap.size 121 2 v' (acc++[(kk,vv)]).length (iQ (acc++[(kk,vv)]))):=Qh (by
       rw[xc,Qf];exact oI)
      have yP:Hid (Below w.heap.size w w4):=Qh (sU.out.grown aU sU.out.size (fun b hb=>by
       rcases DX.out.2 with⟨rfl,_⟩|⟨g,cap,cur,rfl,cj,_⟩
       ·cases hb
       ·cases hb;exact cj))
      clear oI aU;go_wp2_with fail;go_roundw
      case rel=>exact⟨l.drop m,_,n - m,c - m,acc++[(kk,vv)],rfl,by omega,HLD,Pl,Iv,DN,Qh (by have r:=hlen.out;have:=Xr.out;rw[Qf];simp only[List.length_cons,List.length_nil];omega),yP⟩
      case measure=>have:=Xr.out;simp;omega
end Rec
namespace Wr
open Bk Hp Head Rec Mem Block
variable {cs:Array Value} {b:Nat} {t:TypeId}
theorem YS {w:World} {B n:Nat} {v:Value} {bs:List UInt8} (ho:j3 w B v n bs) (hb:au w b t cs) (ht:t≠5):v.ownBlock≠some b:=fun e=>by
 rcases ho.2 with⟨rfl,_⟩|⟨g,cap,cur,rfl,_,hg,_⟩
 ·cases e
 ·have A:g=b:=by simpa [Value.ownBlock]using e
  subst A;unfold au at hb;rw[hb]at hg;simp only[Option.some.injEq,Obj.cells.injEq]at hg;exact ht hg.2.1
theorem O3 (l:List UInt8):sK l=l++rW l.length:=rfl
theorem Fy {w w2 w':World} {g B:Nat} {v:Value} {X xs:List UInt8} (hk:Kept ag w w2) (h:j0 w2 g B v X xs e w'):j0 w g B v X xs e w':=by
 obtain⟨v',he,h1,A,D⟩:=h;exact⟨v',he,h1,(hk.kC _).trans A,fun k E=>(D k E).imp id (Nat.le_trans hk.size)⟩
structure Laid (w:World) (g B:Nat) (v:Value) (wx:World) (v':Value) (Y:List UInt8):Prop where
 AJ:Bi wx g B v' Y
 kept:Kept (M7 g v) w wx
 new:jX w v v'
section
variable {w wx wy:World} {g B:Nat} {v v':Value} {X Y xs:List UInt8}
theorem Laid.start (h:Bi w g B v X):Laid w g B v w v X:=⟨h,Kept.refl _ _,jX.refl _ _⟩
theorem Laid.after (h:Laid w g B v wx v' Y) (hk:Kept ag wx wy):Laid w g B v wy v' Y:=⟨h.AJ.kept hk id (fun _ _=>id),h.kept.trans (hk.kC _),h.new⟩
theorem Laid.step (h:Laid w g B v wx v' Y) (hp:j0 wx g B v' Y xs e wy):∃Xa,e=.returned (.tuple #[])∧Laid w g B v wy Xa (Y++xs)∧Kept (M7 g v') wx wy∧jX wx v' Xa:=by
 obtain⟨u,he,h1,A,D⟩:=hp;refine⟨u,he,⟨h1,h.kept.then A (fun i hi=>?_),h.new.trans D h.kept.size⟩,A,D⟩;rcases hi with hi|hi
 ·exact .inr (.inl hi)
 ·rcases h.new i hi with h4|h4
  ·exact .inr (.inr h4)
  ·exact .inl h4
theorem Laid.pE (h:Laid w g B v wx v' Y) (hk:Kept (M7 g v') wx wy) (hb:au wx b t cs) (h8:t≠5) (hS:b≠g):au wy b t cs:=
 hb.iH hk (fun e=>by
  rcases e with e|e
  ·exact hS e
  ·exact YS h.AJ.own hb h8 e)
theorem Laid.post (h:Laid w g B v wx v' (X++Y)) (he:e=.returned (.tuple #[])):j0 w g B v X Y e wx:=⟨v',he,h.AJ,h.kept,h.new⟩
end
theorem Sh (w:World) (g B:Nat) (v:Value) (X:List UInt8) (h:Bi w g B v X) (hB:B≤w.heap.size) (q1:Option Addr) (m1 c1:Nat) (x1:List UInt8)
 (h1:iC w q1 m1 x1) (l1:x1.length=m1) (o1:0<m1→∀x,q1=some x→v.ownBlock≠some x.block) (qy:X.length+m1≤140737488351232):
 Calls Tryz.prog 85 #[.pointer (some ⟨g,0,none⟩),.slice (some ⟨w.heap.size,0,none⟩) 1 1] (w.alloc (.cells #[.slice q1 m1 c1] 26)) (j0 w g B v X x1):=by
 have hk:Kept ag w (w.alloc (.cells #[.slice q1 m1 c1] 26)):=(Kept.refl _ w).alloc _;have A:=B7 x1;rw[←A];refine(DB _ g B v X (h.kept hk id (fun _ _=>id)) (Nat.le_trans hB hk.size) _ 1 1 (fun _=>q1) (fun _=>m1) (fun _=>c1) (fun _=>x1) ?_ (by decide) ?_ ?_ ?_).mono ?_
 ·intro _
  refine⟨w.heap.size,0,rfl,by simp,fun i hi=>?_⟩
  match i,hi with
  |0,_=>exact⟨by simp,h1.kept hk (fun _ _ _=>id),l1⟩
 ·intro _ x D
  cases D
  have E:=h.lt;refine⟨by show w.heap.size≠g;omega,fun e=>?_⟩;have:w.heap.size<w.heap.size:=(h.own.lt _ e).2;omega
 ·intro i hi
  match i,hi with
  |0,_=>exact o1
 ·rw[A,Qf,l1];omega
 ·rintro e w' h
  exact Fy hk h
theorem As (w:World) (g B:Nat) (v:Value) (X:List UInt8) (hs:Bi w g B v X) (hB:B≤w.heap.size) (h:af) (hwf:∀i,(Lit.int .i64 (sc h i)).wf=true) (Md:h.name.length≤140737488351232) (Mc:h.link.length≤140737488351232)
 (bs:List UInt8) (hp:nK h=some bs) (hl:bs.length=512) (qy:X.length+512≤140737488351232):
 Calls Tryz.prog 83 #[.pointer (some ⟨g,0,none⟩),.agg (aa h)] w (j0 w g B v X bs):=by
 unfold aa;obtain⟨W,H⟩:∃W,w.alloc (.cells #[.string (str h.name),.string (str h.link),.int .u8 (h.kind.toNat:Int),.int .i64 h.mode,.int .i64 h.uid,.int .i64 h.gid,.int .i64 h.time,.int .i64 h.size,.bool h.j7] 66)=W:=⟨_,rfl⟩
 have T:Kept ag w W:=by rw[←H];exact(Kept.refl _ w).alloc _
 have G:=VK h hwf Md Mc W;rw[hp]at G;have Z:=Qh H;have J:=Qh T;have Y:=Qh G;have M:=Qh hs;have L:=Qh hl;clear H T G hs hl hp
 go_enter Tryz.func83,Tryz.ntmps83
 go_wp2_with fail
 rw[show w.alloc (.cells #[.string (str h.name),.string (str h.link),.int .u8 (h.kind.toNat:Int),.int .i64 h.mode,.int .i64 h.uid,.int .i64 h.gid,.int .i64 h.time,.int .i64 h.size,.bool h.j7] 66)=W from Z.out];refine Y.out.mono ?_;rintro e f ⟨U,(⟨bs',O,A,rfl,N,c⟩|⟨A,_⟩)⟩
 case inr=>cases A
 obtain rfl:bs=bs':=Option.some.inj A;have I:=N.nB;rw[L.out]at I;have D:=Qh (J.out.trans U)
 have b:=Qh (Sh f g B v X (M.out.kept D.out id (fun _ _=>id)) (Nat.le_trans hB D.out.size) (some ⟨O,0,none⟩) 512 512 bs I L.out (fun _ x d e=>by
  cases d
  have h1:=(M.out.own.lt _ e).2;have l:O<w.heap.size:=h1;have E:=J.out.size
  omega) (by omega))
 clear A U N c I;go_wp2_with fail;refine b.out.mono ?_;rintro e w3 E;obtain⟨v3,rfl,R⟩:=Fy D.out E;have V:=Qh R;clear E R;go_wp2
 go_end0
 exact⟨v3,rfl,V.out⟩
end Wr
namespace Wr
open Bk Hp Head Rec Attr Mem Block
theorem Kh {m:aB} (h:kS m):(bq m).length≤5∧∀r∈bq m,r.1.length+r.2.length≤1000000000000:=by
 refine⟨?_,fun r A=>by have:=(sJ (qI h r A)).2.2.2.2;omega⟩;have d:∀(c:Prop) [Decidable c] (k v:List UInt8),(if c then[(k,v)]else[]).length≤1:=fun c _ k v=>by split<;>simp
 simp only[bq,Qf];have d1:=d (rb m=true) (aJ 4) m.path;have d2:=d (pP m=true) (aJ 5) m.target;have d3:=d (2097151<m.uid) (aJ 0) (aM m.uid.toNat);have d4:=d (2097151<m.gid) (aJ 1) (aM m.gid.toNat);have d5:=d (8589934591<m.time) (aJ 2) (aM m.time.toNat);omega
structure LI (w:World) (g B:Nat) (v:Value) (M:Array Value) (hb:Nat) (h:af) (p:Option Addr) (bs:List UInt8) (wx:World) (v':Value) (Y:List UInt8):Prop where
 laid:Laid w g B v wx v' Y
 mem:au wx w.heap.size 48 M
 hd:au wx hb 66 (aa h)
 body:iC wx p bs.length bs
 off:0<bs.length→∀x,p=some x→v'.ownBlock≠some x.block
section
variable {w wx wy:World} {g B hb:Nat} {v v':Value} {M:Array Value} {h:af} {p:Option Addr} {bs Y xs:List UInt8}
theorem LI.after (i:LI w g B v M hb h p bs wx v' Y) (hk:Kept ag wx wy):LI w g B v M hb h p bs wy v' Y:=
 ⟨i.laid.after hk,i.mem.iH hk id,i.hd.iH hk id,i.body.kept hk (fun _ _ _=>id),i.off⟩
theorem LI.step (i:LI w g B v M hb h p bs wx v' Y) (hg:g<w.heap.size) (hhb:w.heap.size≤hb) (hp:0<bs.length→∀x,p=some x→x.block<w.heap.size∧v.ownBlock≠some x.block) (q:j0 wx g B v' Y xs e wy):
 ∃Xa,e=.returned (.tuple #[])∧LI w g B v M hb h p bs wy Xa (Y++xs)∧Kept (M7 g v') wx wy∧jX wx v' Xa:=by
 obtain⟨Xa,he,l,k,E⟩:=i.laid.step q;refine⟨Xa,he,⟨l,i.laid.pE k i.mem (by decide) (by omega),i.laid.pE k i.hd (by decide) (by omega),i.body.kept k (fun A x D e=>?_),fun A x D e=>?_⟩,k,E⟩
 ·rcases e with e|e
  ·exact wV i.body i.laid.AJ A x D e
  ·exact i.off A x D e
 ·rcases l.new _ e with e|e
  ·exact(hp A x D).2 e
  ·have:=(hp A x D).1
   omega
end
def ab6 (w:World) (g B:Nat) (v:Value) (X H:List UInt8) (M:Array Value) (hb:Nat) (m:aB) (p:Option Addr) (wx:World):Prop:=
 ∃v' Y,LI w g B v M hb (bJ m) p m.body wx v' (X++Y)∧rq m=Y++(H++sK m.body)∧Y.length≤1100000
theorem GY (w:World) (g B:Nat) (v:Value) (X:List UInt8) (hs:Bi w g B v X) (hB:B≤w.heap.size) (m:aB) (p:Option Addr) (c:Nat) (hg:kS m) (hb:iC w p m.body.length m.body)
 (om:0<m.body.length→∀x,p=some x→v.ownBlock≠some x.block) (qy:X.length+4000000≤140737488351232) (hN:Need w):
 Calls Tryz.prog 53 #[.pointer (some ⟨g,0,none⟩),.agg (jB m p c)] w (j0 w g B v X (rq m)):=by
 obtain⟨H,hpH,hlH,Oy⟩:=RQ hg;obtain⟨Eb,hrz⟩:=Kh hg;have hlm:=sH hg;have hbm:=hg.body;have u:=hs.lt
 have y:0<m.body.length→∀x,p=some x→x.block<w.heap.size∧v.ownBlock≠some x.block:=fun T x I=>⟨by
  obtain⟨b,o,he,pL,_⟩:=hb.cell T;rw[I]at he
  cases he
  exact pL,om T x I⟩
 obtain⟨bl,oE⟩:∃bl,m.body.length=bl:=⟨_,rfl⟩
 obtain⟨n,hn⟩:∃n,(bq m).length=n:=⟨_,rfl⟩
 obtain⟨W0,Ck⟩:∃W0,w.alloc (.cells (jB m p c) 48)=W0:=⟨_,rfl⟩
 have Zw:Kept ag w W0:=by rw[←Ck];exact(Kept.refl _ w).alloc _
 have hM0:au W0 w.heap.size 48 (jB m p c):=by rw[←Ck];exact au.new w _ _
 have t:=Sg m p c W0 hg (hN.below (Zw.below (Qk _) (fun _ h=>h.elim)));have hL0:Laid w g B v W0 v X:=(Laid.start hs).after Zw;have J:=Qh (And.intro hpH hlH);have aj8:=Qh Oy;have Im:=Qh (And.intro Eb hrz);have E:=Qh hlm;have Xt:=Qh y;have Xm:=Qh u;have pB:=Qh Zw;have ov:=Qh hM0;have M:=Qh t;have f:=Qh hL0;have HN:=Qh hN;have HG:=Qh hg;have ay2:=Qh hb;have nR:=Qh om;have XC:=Qh Ck;have l:=Qh oE;have Th:=Qh hn;have xG:=Qh hB;have HBM:=Qh hbm;unfold jB at M XC⊢;rw[oE]at M XC⊢;clear hpH hlH Oy Eb hrz hlm y u Zw hM0 t hL0 hN hg hb om Ck oE hn hB hbm hs
 go_enter Tryz.func53,Tryz.ntmps53
 go_wp2_with fail
 rw[XC.out];refine M.out.mono ?_;rintro e G ⟨q,d,rfl,h1,h2,h3,h4⟩;rw[Th.out]at h1 h3⊢;unfold aa;have HR:=Qh (And.intro h1 (And.intro h2 h3));have iA:=Qh h4;clear h1 h2 h3 h4;go_upto_if 15 with fail;obtain⟨w2,KL⟩:∃w2,G.alloc (.cells #[.string (str (bJ m).name),.string (str (bJ m).link),.int .u8 ((bJ m).kind.toNat:Int),.int .i64 (bJ m).mode,.int .i64 (bJ m).uid,.int .i64 (bJ m).gid,.int .i64 (bJ m).time,.int .i64 (bJ m).size,.bool (bJ m).j7] 66)=w2:=⟨_,rfl⟩
 have R:Kept ag G w2:=by rw[←KL];exact(Kept.refl _ G).alloc _
 have ZL:au w2 G.heap.size 66 (aa (bJ m)):=by rw[←KL];exact au.new G _ _
 have r:=Kept.bj iA.out ag;have jo:Hid (w.heap.size≤G.heap.size):=Qh (Nat.le_trans pB.out.size iA.out.size);have cB:Hid (Below w.heap.size w w2):=Qh ((pB.out.trans (r.trans R)).below (Qk _) (fun _ h=>h.elim));have D:Hid (LI w g B v (jB m p c) G.heap.size (bJ m) p m.body w2 v X):=Qh ⟨(f.out.after r).after R,(ov.out.iH r id).iH R id,ZL,ay2.out.kept (pB.out.trans (r.trans R)) (fun _ _ _=>id),nR.out⟩;have wv:Hid (bG w2 q n (bq m)):=Qh (HR.out.2.2.below (R.below (Qk _) (fun _ h=>h.elim)));have DW:=Qh (HN.out.below cB.out);rw[KL];clear KL R ZL r
 go_cut [6] (fun _ wx=>ab6 w g B v X H (jB m p c) G.heap.size m p wx)
 case first=>
  rcases aj8.out with⟨hr,he⟩|⟨hr,Xh,x1,x2,he⟩
  ·have hz:¬(0:Int)<(n:Int):=by have:=Th.out;rw[hr]at this;simp at this;omega
   have W:=Qh he;clear hr he;go_wp2;go_meet;exact⟨v,[],by rw[List.append_nil];exact D.out,by rw[List.nil_append];exact W.out,by simp⟩
  ·have hz:(0:Int)<(n:Int):=by
    have:=List.length_pos_iff.2 hr;rw[Th.out]at this;omega
   have W:=Qh he;have oX:=Qh (And.intro x1 x2);clear hr he x1 x2;go_wp2_with fail;refine(Nf q n d (bq m) w2 (by have:=Im.out.1;rw[Th.out]at this;omega) wv.out Im.out.2 DW.out).mono ?_;rintro e w3 ⟨hy,_,kW⟩;obtain⟨p3,c3,rfl,z,h32,N,Io⟩:=hy (qI HG.out);obtain⟨L,hL⟩:∃L,(bc (bq m)).length=L:=⟨_,rfl⟩
   have Te:=Qh hL;rw[hL]at z N oX E⊢;have U:=Qh (And.intro N Io);have NS:=Qh (D.out.after (Kept.bj kW ag));have HS3:Hid (w2.heap.size≤w3.heap.size):=Qh kW.size;have nP:=Qh (cB.out.trans (kW.mono cB.out.size))
   have hH:Calls Tryz.prog 83 #[.pointer (some ⟨g,0,none⟩),.agg #[.string ⟨#[64,112,97,120]⟩,.string ⟨#[]⟩,.int .u8 120,.int .i64 0,.int .i64 0,.int .i64 0,.int .i64 0,.int .i64 (L:Int),.bool false]] w3 (j0 w3 g B v X Xh):=
    As w3 g B v X NS.out.laid.AJ (Nat.le_trans xG.out nP.out.size) (Hi L) (YT E.out) (by show(4:Nat)≤_;decide) (by show(0:Nat)≤_;decide) Xh oX.out.1 oX.out.2 (by omega)
   have HH:=Qh hH;clear hy kW hL z h32 N Io hH;go_wp2_with fail;refine HH.out.mono ?_;rintro e w4 h4;obtain⟨v4,rfl,i4,k4,n4⟩:=NS.out.step Xm.out jo.out Xt.out h4
   have nE:iC w4 p3 L (bc (bq m)):=U.out.1.kept k4 (fun T x I e=>by
    rcases e with e|e
    ·exact wV U.out.1 NS.out.laid.AJ T x I e
    ·have a1:=(f.out.AJ.own.lt _ e).2
     have a2:=U.out.2 x I;have a3:=pB.out.size;have a4:=cB.out.size;have a5:=iA.out.size;have a6:=(D.out.laid.AJ.own.lt _ e).2
     omega)
   have ho4:0<L→∀x,p3=some x→v4.ownBlock≠some x.block:=fun T x I e=>by
    have a2:=U.out.2 x I;obtain⟨b,o,he,pL,_⟩:=U.out.1.cell T;rw[I]at he
    cases he
    rcases n4 _ e with e|e
    ·have a6:=(D.out.laid.AJ.own.lt _ e).2
     change w2.heap.size≤b at a2;change b<w2.heap.size at a6;omega
    ·change w3.heap.size≤b at e
     omega
   have si:=Qh nE;have HO4:=Qh ho4;have NT:=Qh i4;have HS4:Hid (w3.heap.size≤w4.heap.size):=Qh k4.size;clear h4 i4 k4 n4 nE ho4;go_wp2_with fail;refine(FQ w4 g B v4 (X++Xh) NT.out.laid.AJ (by have:=xG.out;have:=nP.out.size;have:=HS4.out;omega) p3 L c3 (bc (bq m)) si.out Te.out HO4.out (by rw[Qf,oX.out.2];have:=BH L;have:=E.out;omega)).mono ?_;rintro e w5 h5;obtain⟨v5,rfl,i5,_,_⟩:=NT.out.step Xm.out jo.out Xt.out h5
   have BP:Hid (LI w g B v (jB m p c) G.heap.size (bJ m) p m.body w5 v5 (X++(Xh++sK (bc (bq m))))):=Qh (by
    rw[O3,Te.out,←List.append_assoc]
    exact i5)
   clear h5 i5;go_wp2;go_meet;refine⟨v5,_,BP.out,by rw[W.out],?_⟩;rw[Qf,jz,oX.out.2,Te.out];have:=(jL L).2;have:=E.out;omega
 case rest=>
  obtain⟨v6,Y,i6,he,hy⟩:=hcut;have A:=i6.hd;have z0:=A.cell 0;have z1:=A.cell 1;have z2:=A.cell 2;have z3:=A.cell 3;have z4:=A.cell 4;have z5:=A.cell 5;have z6:=A.cell 6;have z7:=A.cell 7;have z8:=A.cell 8;simp only[aa,Qc,Qa,Qb]at z0 z1 z2 z3 z4 z5 z6 z7 z8;have HI6:=Qh i6;have W:=Qh he;have HYL:=Qh hy;have V:Hid (B≤wc.heap.size):=Qh (Nat.le_trans xG.out i6.laid.kept.size);have hH:=As wc g B v6 (X++Y) i6.laid.AJ V.out (bJ m) (Uo HG.out) (Jf HG.out).1 (Jf HG.out).2 H J.out.1 J.out.2 (by rw[Qf];omega);unfold aa at hH;have HH:=Qh hH;clear A i6 he hy hH;go_wp2_with fail;refine HH.out.mono ?_;rintro e w7 h7;obtain⟨v7,rfl,i7,k7,_⟩:=HI6.out.step Xm.out jo.out Xt.out h7;have y7:=i7.mem.cell 7;simp only[jB,Qc,Qa,Qb]at y7;rw[l.out]at y7;have pY:=i7.body;have O:=i7.off;rw[l.out]at pY O;have BO:=Qh pY;have HOF:=Qh O;have Z:=Qh i7;have HS7:Hid (wc.heap.size≤w7.heap.size):=Qh k7.size;clear h7 i7 k7 z0 z1 z2 z3 z4 z5 z6 z7 z8 pY O;go_wp2_with fail;refine(FQ w7 g B v7 (X++Y++H) Z.out.laid.AJ (Nat.le_trans V.out HS7.out) p bl c m.body BO.out l.out HOF.out (by rw[Qf,Qf,J.out.2];have:=BH bl;have:=HBM.out;have:=l.out;have:=HYL.out;omega)).mono ?_;rintro e w8 h8;obtain⟨v8,rfl,i8,_,_⟩:=Z.out.step Xm.out jo.out Xt.out h8
  have HF:Hid (Laid w g B v w8 v8 (X++rq m)):=Qh (by
   have:=i8.laid;rw[W.out,O3,l.out];rw[show X++(Y++(H++(m.body++rW bl)))=X++Y++H++(m.body++rW bl) by simp only[List.append_assoc]]
   exact this)
  clear h8 i8 y7;go_wp2
  go_end0
  exact⟨v8,rfl,HF.out.AJ,HF.out.kept,HF.out.new⟩
end Wr
end Go.Proofs.YtdhibldkldlfpaaGreatDoor
