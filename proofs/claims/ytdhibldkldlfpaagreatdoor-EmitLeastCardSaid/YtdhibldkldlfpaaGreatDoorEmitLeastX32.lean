/- Merged. -/
import Derived.Test.YtdhibldkldlfpaaGreatDoorEmitLeastX19
import Derived.Shelf.Unicode.ValidAny
import Derived.Test.YtdhibldkldlfpaaGreatDoorEmitLeastX25
import Derived.Test.YtdhibldkldlfpaaGreatDoorEmitLeastX30
import Derived.Test.YtdhibldkldlfpaaGreatDoorEmitLeastX17
import Derived.Test.YtdhibldkldlfpaaGreatDoorEmitLeastX31
namespace Go.Proofs.YtdhibldkldlfpaaGreatDoor
set_option linter.unusedVariables false
set_option maxHeartbeats 8000000
set_option maxRecDepth 100000
open Go.ChangeShapes Go.WideShapes Go.ChangeAt Go.RowKit Base bJ cn Go.Lib
variable {e:Ending}
namespace Path
open Go.Shelf qd
theorem wK (l:List UInt8) (w:World) (hm:l.length≤140737488351232) (hT:Tabs w):
 Calls Tryz.prog 148 #[.string (str l)] w fun e w'=>e=.returned (.bool (aQ l))∧Below w.heap.size w w':=by
 have B:=Any.utf8_ValidString Tryz.laysValid (str l) w (by rw[aq];omega) hT;have A:=fun w=>Any.strings_Contains_one Tryz.pK (str l) 0 w
 rw[bg]at B;simp only[bg,pJ]at A;rw[uj];have mixed:Tryz.prog.follows .mixedOrders=true:=by kernel_rfl
 clear hT hm
 cases E:Lib.validD l with
 |false=>
  rw[E]at B;clear A
  go_enter Tryz.func148,Tryz.ntmps148
  go_wp2_with (go_at_call 185;refine B.mono ?_;rintro e G ⟨rfl,D⟩)
  go_ret;exact⟨rfl,D⟩
 |true=>
  rw[E]at B
  cases hc:l.contains 0 with
  |false=>
   rw[hc]at A
   go_enter Tryz.func148,Tryz.ntmps148
   go_wp2_with (first|(go_at_call 185;refine B.mono ?_;rintro e G ⟨rfl,D⟩)|(go_at_call 157;refine(A _).mono ?_;rintro e H ⟨rfl,rfl⟩))
   go_ret;exact⟨rfl,D⟩
  |true=>
   rw[hc]at A
   go_enter Tryz.func148,Tryz.ntmps148
   go_wp2_with (first|(go_at_call 185;refine B.mono ?_;rintro e G ⟨rfl,D⟩)|(go_at_call 157;refine(A _).mono ?_;rintro e H ⟨rfl,rfl⟩))
   go_ret;exact⟨rfl,D⟩
theorem uh (l:List UInt8) (w:World) (hm:l.length≤140737488351232) (hT:Tabs w):
 Calls Tryz.prog 153 #[.string (str l)] w fun e w'=>e=.returned (.int .i64 (cY 9 6 l))∧Below w.heap.size w w':=by
 have A:=wK l w hm hT;have hs:(str l).size=l.length:=aq l;unfold cY;clear hT
 cases D:aQ l with
 |false=>
  rw[D]at A;rw[if_pos rfl];clear hm hs
  go_enter Tryz.func153,Tryz.ntmps153
  go_wp2_with (go_at_call 148;refine A.mono ?_;rintro e E ⟨rfl,B⟩)
  go_ret;exact⟨rfl,B⟩
 |true=>
  rw[D]at A;rw[if_neg (by simp)];obtain⟨n,G⟩:∃n,(str l).size=n:=⟨_,rfl⟩
  by_cases h:l=[]∨200<l.length
  ·have hi:Jd (n:Int) 1 200=false:=by
    refine iP ?_;rw[←G,hs];rcases h with rfl|h
    ·simp
    ·omega
   rw[if_pos h];clear hm hs h
   go_enter Tryz.func153,Tryz.ntmps153
   go_wp2_with (first|(go_at_call 148;refine A.mono ?_;rintro e E ⟨rfl,B⟩)|(go_at_call 152;refine(kL _ _ _ _).mono ?_;rw[hi];rintro e H ⟨rfl,rfl⟩))
   go_ret;exact⟨rfl,B⟩
  ·have hi:Jd (n:Int) 1 200=true:=by
    have:0<l.length:=List.length_pos_iff.2 fun e=>h (.inl e)
    exact fK (by omega) (by omega)
   rw[if_neg h];clear hm hs h
   go_enter Tryz.func153,Tryz.ntmps153
   go_wp2_with (first|(go_at_call 148;refine A.mono ?_;rintro e E ⟨rfl,B⟩)|(go_at_call 152;refine(kL _ _ _ _).mono ?_;rw[hi];rintro e H ⟨rfl,rfl⟩))
   go_ret;exact⟨rfl,B⟩
end Path
namespace Rec
open Go.Shelf Path
theorem kT (l:List UInt8) (w:World) (hm:l.length≤1000000000000) (hT:Tabs w):
 Calls Tryz.prog 142 #[.string (str l)] w fun e w'=>e=.returned (.bool (aQ l))∧Below w.heap.size w w':=by
 have A:=uh l w (by omega) hT;obtain⟨r,D⟩:∃r,cY 9 6 l=r:=⟨_,rfl⟩
 have E:(r != 9)=aQ l:=by
  rw[←D];unfold cY
  cases aQ l with
  |false=>rfl
  |true=>
   rw[if_neg (by simp)];split<;>rfl
 rw[D]at A;clear hT hm D
 cases G:aQ l with
 |false=>
  rw[G]at E
  go_enter Tryz.func142,Tryz.ntmps142
  go_wp2_with (go_at_call 153;refine A.mono ?_;rintro e H ⟨rfl,B⟩)
  go_ret;exact⟨rfl,B⟩
 |true=>
  rw[G]at E
  go_enter Tryz.func142,Tryz.ntmps142
  go_wp2_with (go_at_call 153;refine A.mono ?_;rintro e H ⟨rfl,B⟩)
  go_ret;exact⟨rfl,B⟩
def uB (l:List UInt8):List UInt8 × List UInt8 × Bool:=
 if 0≤Lib.indexByte l 61 then(l.take (Lib.indexByte l 61).toNat,l.drop ((Lib.indexByte l 61).toNat+1),true)else(l,[],false)
theorem DJ (l:List UInt8) (w:World) (hm:l.length≤1000000000000):
 Calls Tryz.prog 181 #[.string (str l),.string ⟨#[61]⟩] w fun e w'=>e=.returned (.tuple #[.string (str (uB l).1),.string (str (uB l).2.1),.bool (uB l).2.2])∧∃n,w'=w.drewN n:=by
 have A:=Any.stringslite_Index_one Tryz.pL (str l) 61 w;rw[bg]at A;have hs:(str l).size=l.length:=aq l;unfold uB
 by_cases h:0≤Lib.indexByte l 61
 ·obtain⟨k,hk⟩:∃k:Nat,Lib.indexByte l 61=k:=⟨(Lib.indexByte l 61).toNat,by omega⟩
  have G:=(List.getElem?_eq_some_iff.1 (Lib.indexByte_some hk).1).1;rw[if_pos h,hk,Int.toNat_natCast];rw[hk]at A;clear h hk;simp only;have B:(str l).extract 0 k=str (l.take k):=ue l k;have D:(str l).extract (k+1) (str l).size=str (l.drop (k+1)):=ud l (k+1) _ hs;rw[←B,←D];have c1:(0:Int)≤(k:Int):=by omega
  have c2:(k:Int)≤((str l).size:Int):=by omega
  have c3:(0:Int)≤(k:Int)+1:=by omega
  have c4:(k:Int)+1≤((str l).size:Int):=by omega
  have c5:((str l).size:Int)≤1000000000000:=by omega
  clear B D;have mixed:Tryz.prog.follows .mixedOrders=true:=by kernel_rfl
  go_enter Tryz.func181,Tryz.ntmps181
  go_wp2_with (go_at_call 208;refine A.mono ?_;rintro e w' ⟨rfl,rfl⟩)
  go_region_o
  go_wp2
  go_ret3
  exact⟨rfl,1,rfl⟩
 ·rw[if_neg h]
  have E:Lib.indexByte l 61=-1:=by have:=Lib.indexByte_ge l 61;omega
  rw[E]at A;clear h E
  go_enter Tryz.func181,Tryz.ntmps181
  go_wp2_with (go_at_call 208;refine A.mono ?_;rintro e w' ⟨rfl,rfl⟩)
  go_ret3
  exact⟨rfl,0,rfl⟩
theorem JU (l:List UInt8) (w:World) (hm:l.length≤1000000000000):
 Calls Tryz.prog 141 #[.string (str l),.string ⟨#[61]⟩] w fun e w'=>e=.returned (.tuple #[.string (str (uB l).1),.string (str (uB l).2.1),.bool (uB l).2.2])∧∃n,w'=w.drewN n:=by
 have hc:=DJ l w hm
 go_enter Tryz.func141,Tryz.ntmps141
 go_wp2_with (go_at_call 181;refine hc.mono ?_;rintro e w' ⟨rfl,n,rfl⟩)
 go_ret3
 exact⟨rfl,n,rfl⟩
theorem yj (k v:List UInt8) (w:World) (hk:k.length≤1000000000000) (hv:v.length≤1000000000000) (hN:Need w):
 Calls Tryz.prog 155 #[.agg #[.string (str k),.string (str v)]] w fun e w'=>e=.returned (.bool (gw k v))∧Below w.heap.size w w':=by
 obtain⟨a,H⟩:∃a,a=str k:=⟨_,rfl⟩
 obtain⟨b,U⟩:∃b,b=str v:=⟨_,rfl⟩
 have N:Hid (a.size=k.length∧b.size=v.length):=Qh ⟨by rw[H,aq],by rw[U,aq]⟩;have q:(a.size:Int)≤1000000000000:=by have:=N.out;omega
 have r:(b.size:Int)≤1000000000000:=by have:=N.out;omega
 obtain⟨M,f⟩:∃M,gw k v=M:=⟨_,rfl⟩
 have W:=Qh f;rw[f];obtain⟨c0,c1⟩:=su w 121 (.string a) (.string b);have B:Hid (Below w.heap.size w (w.alloc (.cells #[.string a,.string b] 121))):=Qh ((Below.refl _ _).alloc (Qk _) _);have I:=Qh hN.yr;have m:=fun w=>Any.strings_Contains_one Tryz.pK a 61 w
 have Y:=fun g h=>kT k g hk h
 have Z:=fun g h=>kT v g hv h
 rw[←H]at Y;rw[←U]at Z
 have hi:∀w,Calls Tryz.prog 157 #[.string a,.string ⟨#[61]⟩] w fun e w'=>e=.returned (.bool (k.contains 61))∧w'=w:=by
  intro w;have:=m w
  rwa [show a.data.toList=k by rw[H,bg],pJ]at this
 have J:=Qh Y;have O:=Qh Z;have HC:=Qh hi;have he:a.toList.isEmpty=k.isEmpty:=by rw[H,ay]
 rw[←H,←U];clear f hN m hi Y Z H U
 by_cases h1:k=[]
 ·obtain rfl:false=M:=by rw[←W.out,h1];rfl
  have d:a.toList.isEmpty=true:=by rw[he,h1];rfl
  clear h1 he hk hv
  go_enter Tryz.func155,Tryz.ntmps155
  go_wp2;go_ret;exact⟨rfl,B.out⟩
 ·have G:k.isEmpty=false:=by
   cases h:k with
   |nil=>exact absurd h h1
   |cons _ _=>rfl
  have d:a.toList.isEmpty=false:=by rw[he,G]
  cases T:k.contains 61 with
  |true=>
   obtain rfl:false=M:=by rw[←W.out];unfold gw;rw[T];rfl
   rw[T]at HC;clear h1 he hk hv G
   go_enter Tryz.func155,Tryz.ntmps155
   go_wp2_with fail
   refine(HC.out _).mono ?_;rintro e w' ⟨rfl,rfl⟩;go_wp2;go_ret;exact⟨rfl,B.out⟩
  |false=>
   rw[T]at HC
   have X:Hid ((aQ k&&aQ v&&decide (k.length+v.length≤100000))=M):=Qh (by
    have:=W.out;simp only[gw,T,G,Bool.not_false,Bool.true_and]at this
    exact this)
   cases L:aQ k with
   |false=>
    obtain rfl:false=M:=by rw[←X.out,L];rfl
    rw[L]at J;clear h1 he hk hv G
    go_enter Tryz.func155,Tryz.ntmps155
    go_wp2_with fail
    refine(HC.out _).mono ?_;rintro e w' ⟨rfl,rfl⟩;go_wp2_with fail;refine(J.out _ (I.out.below B.out)).mono ?_;rintro e l ⟨rfl,A⟩;have D:=Qh (B.out.trans (A.mono B.out.size));clear A;go_wp2;go_ret;exact⟨rfl,D.out⟩
   |true=>
    rw[L]at J
    cases R:aQ v with
    |false=>
     obtain rfl:false=M:=by rw[←X.out,L,R];rfl
     rw[R]at O;clear h1 he hk hv G
     go_enter Tryz.func155,Tryz.ntmps155
     go_wp2_with fail
     refine(HC.out _).mono ?_;rintro e w' ⟨rfl,rfl⟩;go_wp2_with fail;refine(J.out _ (I.out.below B.out)).mono ?_;rintro e l ⟨rfl,A⟩;have d0:=(A.cell (p:=⟨w.heap.size,0,none⟩) (by rw[World.size_alloc];exact Nat.lt_succ_self _)).trans c0;have d1:=(A.cell (p:=⟨w.heap.size,1,none⟩) (by rw[World.size_alloc];exact Nat.lt_succ_self _)).trans c1;have D:=Qh (B.out.trans (A.mono B.out.size));clear A c0 c1;go_wp2_with fail;refine(O.out _ (I.out.below D.out)).mono ?_;rintro e w3 ⟨rfl,E⟩;have c:=Qh (D.out.trans (E.mono D.out.size));clear E;go_wp2;go_ret;exact⟨rfl,c.out⟩
    |true=>
     have o:decide ((a.size:Int)+(b.size:Int)≤100000)=M:=by
      rw[←X.out,L,R,N.out.1,N.out.2];simp;omega
     rw[R]at O;clear h1 he hk hv G
     go_enter Tryz.func155,Tryz.ntmps155
     go_wp2_with fail
     refine(HC.out _).mono ?_;rintro e w' ⟨rfl,rfl⟩;go_wp2_with fail;refine(J.out _ (I.out.below B.out)).mono ?_;rintro e l ⟨rfl,A⟩;have d0:=(A.cell (p:=⟨w.heap.size,0,none⟩) (by rw[World.size_alloc];exact Nat.lt_succ_self _)).trans c0;have d1:=(A.cell (p:=⟨w.heap.size,1,none⟩) (by rw[World.size_alloc];exact Nat.lt_succ_self _)).trans c1;have D:=Qh (B.out.trans (A.mono B.out.size));clear c0 c1;go_wp2_with fail;refine(O.out _ (I.out.below D.out)).mono ?_;rintro e w3 ⟨rfl,E⟩;have V:w.heap.size<l.heap.size:=Nat.lt_of_lt_of_le (by rw[World.size_alloc];exact Nat.lt_succ_self _) A.size;have t:=(E.cell (p:=⟨w.heap.size,0,none⟩) V).trans d0;have u:=(E.cell (p:=⟨w.heap.size,1,none⟩) V).trans d1;have c:=Qh (D.out.trans (E.mono D.out.size));clear A E d0 d1 V;go_wp2;go_ret;exact⟨rfl,c.out⟩
end Rec
namespace Rec
open Path
theorem qO (k v:List UInt8) (w:World) (hk:k.length≤1000000000000) (hv:v.length≤1000000000000) (Kt:k.length+v.length≤1000000000000) (hN:Need w):
 Calls Tryz.prog 126 #[.agg #[.string (str k),.string (str v)]] w fun e w'=>
  e=.returned (.tuple #[.string (str (if gw k v then cP k v else[])),.bool (gw k v)])∧Below w.heap.size w w':=by
 have G:=Qh (fun R h=>yj k v R hk hv h);have O:=Qh hN;obtain⟨a,L⟩:∃a,a=str k:=⟨_,rfl⟩
 obtain⟨b,M⟩:∃b,b=str v:=⟨_,rfl⟩
 obtain⟨n1,X⟩:∃n,a.size=n:=⟨_,rfl⟩
 obtain⟨n2,V⟩:∃n,b.size=n:=⟨_,rfl⟩
 have m1:k.length=n1:=by rw[←X,L,aq]
 have m2:v.length=n2:=by rw[←V,M,aq]
 have f:(⟨#[32]⟩:ByteArray)++a++⟨#[61]⟩++b++⟨#[10]⟩=str (gN k v):=by
  rw[L,M,show(⟨#[32]⟩:ByteArray)=str [32]from rfl,show(⟨#[61]⟩:ByteArray)=str [61]from rfl,show(⟨#[10]⟩:ByteArray)=str [10]from rfl,cn.eM,cn.eM,cn.eM,cn.eM];simp[gN]
 have s1:1+n1≤9223372036854775807:=by omega
 have s2:1+n1+1≤9223372036854775807:=by omega
 have c:1+n1+1+n2≤9223372036854775807:=by omega
 have d:1+n1+1+n2+1≤9223372036854775807:=by omega
 obtain⟨B,I⟩:∃B,B=str (gN k v):=⟨_,rfl⟩
 obtain⟨m,hm⟩:∃m,m=(gN k v).length:=⟨_,rfl⟩
 have g:B.size=m:=by rw[I,aq,hm]
 have W:m=n1+n2+3:=by rw[hm,iz,m1,m2]
 rw[←I]at f;obtain⟨D,J⟩:∃D,D=str (aJ (gT m)):=⟨_,rfl⟩
 have U:Hid (str (cP k v)=D++B):=Qh (by rw[I,J,cn.eM,cP,hm])
 have Z:D.size+m≤9223372036854775807:=by
  have h1:=tj m (by omega);have l:=oN m;have o:=lI m 18 (by omega) (by omega);rw[J,aq];omega
 have HC:Hid (∀w,Need w→Calls Tryz.prog 156 #[.int .i64 (m:Int)] w fun e w'=>e=.returned (.string D)∧Below w.heap.size w w'):=Qh (fun w h=>by
  rw[J]
  exact yi m w (by omega) (by omega) h)
 rw[←L,←M]at G⊢;obtain⟨c0,c1⟩:=su w 121 (.string a) (.string b);have E:Hid (Below w.heap.size w (w.alloc (.cells #[.string a,.string b] 121))):=Qh ((Below.refl _ _).alloc (Qk _) _);clear m1 m2 I hm W Kt hk hv hN L M J
 cases N:gw k v with
 |true=>
  rw[N]at G;rw[if_pos rfl,U.out];clear N
  go_enter Tryz.func126,Tryz.ntmps126
  go_wp2_with fail
  refine(G.out _ (O.out.below E.out)).mono ?_;rintro e R ⟨rfl,A⟩;have d0:=(A.cell (p:=⟨w.heap.size,0,none⟩) (by rw[World.size_alloc];exact Nat.lt_succ_self _)).trans c0;have d1:=(A.cell (p:=⟨w.heap.size,1,none⟩) (by rw[World.size_alloc];exact Nat.lt_succ_self _)).trans c1;have H:=Qh (E.out.trans (A.mono E.out.size));clear A c0 c1;go_wp2_with fail;refine(HC.out _ (O.out.below H.out)).mono ?_;rintro e q ⟨rfl,T⟩;have Y:=Qh (H.out.trans (T.mono H.out.size));clear T s1 s2 c d;go_wp2;go_ret2;exact⟨rfl,Y.out⟩
 |false=>
  rw[N]at G;rw[if_neg (by simp)];clear N
  go_enter Tryz.func126,Tryz.ntmps126
  go_wp2_with fail
  refine(G.out _ (O.out.below E.out)).mono ?_;rintro e R ⟨rfl,A⟩;have H:=Qh (E.out.trans (A.mono E.out.size));clear A;go_wp2;go_ret2;exact⟨rfl,H.out⟩
theorem Aw (k v:List UInt8) (w:World) (hm:gw k v=true) (Kt:k.length+v.length≤1000000000000) (hN:Need w):
 Calls Tryz.prog 126 #[.agg #[.string (str k),.string (str v)]] w fun e w'=>e=.returned (.tuple #[.string (str (cP k v)),.bool true])∧Below w.heap.size w w':=by
 have:=qO k v w (by omega) (by omega) Kt hN
 rwa [hm,if_pos rfl]at this
theorem Dz (k v:List UInt8) (w:World) (hm:gw k v=false) (Kt:k.length+v.length≤1000000000000) (hN:Need w):
 Calls Tryz.prog 126 #[.agg #[.string (str k),.string (str v)]] w fun e w'=>e=.returned (.tuple #[.string (str []),.bool false])∧Below w.heap.size w w':=by
 have:=qO k v w (by omega) (by omega) Kt hN
 rwa [hm,if_neg (by simp)]at this
theorem CZ (rs:List (List UInt8 × List UInt8)) (j:Nat) (h:j<rs.length):aN (rs.take (j+1))=aN (rs.take j)++cP (rs.getD j ([],[])).1 (rs.getD j ([],[])).2:=by
 rw[List.take_add_one,Qd h,List.getD,Qd h];simp only[Option.toList,aN,List.map_append,List.flatten_append,List.map_cons,List.map_nil,List.flatten_cons,List.flatten_nil,List.append_nil,Option.getD_some]
theorem J3 (rs:List (List UInt8 × List UInt8)) (j:Nat) (h:j<rs.length):rs.getD j ([],[])∈rs:=by
 rw[List.getD,Qd h];exact List.getElem_mem h
theorem LW (rs:List (List UInt8 × List UInt8)) (j:Nat) (h:j<rs.length) (P:List UInt8 × List UInt8→Prop) (h1:∀r∈rs.take j,P r) (h2:P (rs.getD j ([],[]))):∀r∈rs.take (j+1),P r:=by
 intro r A;rw[List.take_add_one,Qd h]at A;rcases List.mem_append.1 A with h3|h3
 ·exact h1 r h3
 ·rw[List.getD,Qd h]at h2
  simp at h3;rw[h3];exact h2
theorem Hg (l:List (List UInt8 × List UInt8)) (h:∀r∈l,gw r.1 r.2=true):(aN l).length≤100010*l.length:=by
 induction l with
 |nil=>simp[aN]
 |cons r l ih=>
  have h1:=ih fun x B=>h x (List.mem_cons_of_mem _ B)
  have A:=h r (by simp);obtain⟨d,_,_,_,_,E,_,hl⟩:=nK A;have D:=(kg A).2.2.2.2;have e:aN (r::l)=cP r.1 r.2++aN l:=by simp[aN]
  rw[e,Qf,List.length_cons];omega
theorem Lf (a b:List UInt8):nums (a++b)=nums a++nums b:=by simp[nums]
theorem yp (l:List UInt8):strCells (str l)=(nums l).map (Value.int .u8):=by
 unfold strCells nums;rw[bg,List.map_map];rfl
def M4 (rs:List (List UInt8 × List UInt8)) (w:World) (e:Ending) (w':World):Prop:=
 ((∀r∈rs,gw r.1 r.2=true)→∃p c,e=.returned (.tuple #[.slice p (aN rs).length c,.bool true])∧(aN rs).length≤c∧c≤maxLen∧cB w' p (aN rs).length (aN rs)∧(∀x,p=some x→w.heap.size≤x.block))∧
   ((∃r∈rs,gw r.1 r.2=false)→e=.returned (.tuple #[.slice none 0 0,.bool false]))∧Below w.heap.size w w'
theorem KM:(Tryz.prog.info? 5).map (fun i=>(i.zero,i.size,i.bytes))=some (some (.int .u8 0),1,1):=by kernel_rfl
theorem DA (p:Option Addr) (n c:Nat) (rs:List (List UInt8 × List UInt8)) (w:World) (hm:n≤1000000000) (h:cd w p n rs) (hsz:∀r∈rs,r.1.length+r.2.length≤1000000000000) (hN:Need w):
 Calls Tryz.prog 82 #[.slice p n c] w (M4 rs w):=by
 have H:=Qh h;have W:=Qh h.1;have fZ:=Qh hsz;have m:=Qh hN;obtain⟨i0,hi,fQ,eU,eX⟩:=info_parts KM;have HI:=Qh hi;have lr:=Qh fQ;have jZ:=Qh eU;have lu:=Qh eX;have HM:=Qh hm;have hmi:(n:Int)≤1000000000:=by omega
 clear h hsz hN hi fQ eU eX hm
 go_enter Tryz.func82,Tryz.ntmps82
 go_wp2_with fail
 go_loopw [4,11] (fun o i wr=>∃(j:Nat),j≤n∧i=.int .i64 (j:Int)∧Hid (wr.ownsRow w.heap.size 5 1 o (aN (rs.take j)).length ((nums (aN (rs.take j))).map (Value.int .u8)))∧Hid (∀r∈rs.take j,gw r.1 r.2=true)∧Hid (Below w.heap.size w wr)) (fun _ i _=>n - (RowKit.intOf i).toNat)
 case atStart=>exact⟨0,Nat.zero_le _,rfl,Qh (World.ownsRow_nil _ _ _ _),Qh (by simp),Qh (Below.refl _ _)⟩
 case round=>
  obtain⟨j,hj,rfl,bh,B,R⟩:=hrel
  by_cases I:j<n
  ·obtain⟨b1,o1,rfl,cf,gR⟩:=(H.out.below R.out).2 (by omega)
   obtain⟨x0,x1⟩:=gR j I;obtain⟨u,hu⟩:∃u,rs.getD j ([],[])=u:=⟨_,rfl⟩
   rw[hu,Nat.mul_comm]at x0 x1;have t:=Qh hu;have SF:Hid (u∈rs):=Qh (by rw[←hu];exact J3 rs j (by rw[W.out];exact I));have kK:(j:Int)<(n:Int):=by omega
   have YZ:=Qh (fZ.out u SF.out);have E:Hid (Below w.heap.size w (wr.alloc (.cells #[.string (str u.1),.string (str u.2)] 121))):=Qh (R.out.alloc R.out.size _);have HJ:=Qh I;have la:Hid (Below wr.heap.size wr (wr.alloc (.cells #[.string (str u.1),.string (str u.2)] 121))):=Qh ((Below.refl _ _).alloc (Qk _) _);clear gR hu cf
   cases G:gw u.1 u.2 with
   |false=>
    have f:=Qh (fun N h1=>Dz u.1 u.2 N G YZ.out h1);have r9:Hid (∃r∈rs,gw r.1 r.2=false):=Qh ⟨u,SF.out,G⟩;clear G;go_wp2_with fail;refine(f.out _ (m.out.below E.out)).mono ?_;rintro e N ⟨rfl,A⟩;have J:=Qh (E.out.trans (A.mono E.out.size));clear A;go_wp2;go_ret2;refine⟨fun h=>?_,fun _=>rfl,J.out⟩;obtain⟨r,d,M⟩:=r9.out;rw[h r d]at M
    cases M
   |true=>
    have f:=Qh (fun N h1=>Aw u.1 u.2 N G YZ.out h1);obtain⟨L,T⟩:∃L,str (cP u.1 u.2)=L:=⟨_,rfl⟩
    have HL:=Qh T;have z:Hid (L.size=(cP u.1 u.2).length):=Qh (by rw[←T,aq]);have O:Hid (∀r∈rs.take (j+1),gw r.1 r.2=true):=Qh (LW rs j (by rw[W.out];exact I) _ B.out (by rw[t.out];exact G));have SH:Hid (aN (rs.take (j+1))=aN (rs.take j)++cP u.1 u.2):=Qh (by rw[CZ rs j (by rw[W.out];exact I),t.out])
    have Sr:Hid ((aN (rs.take j)).length+L.size≤140737488351232):=Qh (by
     have h1:=Hg _ O.out;rw[SH.out,Qf,Qg]at h1;have:=HM.out;have:=z.out;have:min (j+1) rs.length≤1000000000:=by omega
     omega)
    clear G;go_wp2_with fail;refine(f.out _ (m.out.below E.out)).mono ?_;rw[T];rintro e N ⟨rfl,A⟩;have J:=Qh (E.out.trans (A.mono E.out.size));have y:=Qh (cR bh.out (la.out.trans (A.mono la.out.size)));clear A T
    go_wp2_with (at_builtin;refine wpList_append_own_string _ rfl _ _ 26 9 rfl w.heap.size 5 i0 Tryz.underlying26 Tryz.underlying9 HI.out lr.out jZ.out lu.out _ _ _ rfl y.out L rfl (by have:=Sr.out;unfold maxLen;omega) (by have:=Sr.out;omega) J.out.size ?_)
    intro v' w2 j9 bw _
    have MV:Hid (w2.ownsRow w.heap.size 5 1 v' (aN (rs.take (j+1))).length ((nums (aN (rs.take (j+1)))).map (Value.int .u8))):=Qh (by
     rw[SH.out,Qf,←z.out,Lf,List.map_append,←yp (cP u.1 u.2),HL.out]
     exact j9)
    have PA:Hid (Below w.heap.size w w2):=Qh (J.out.grown bw J.out.size (fun b U=>by
     rcases y.out.2 with⟨rfl,_⟩|⟨g,cap,cur,rfl,A,_⟩
     ·cases U
     ·cases U;exact A))
    clear j9 bw;go_wp2_with fail;go_roundw
    case rel=>exact⟨j+1,by omega,by go_num,MV,O,PA⟩
    case measure=>simp[RowKit.intOf];omega
  ·have ng:¬((j:Int)<(n:Int)):=by omega
   have Wo:Hid (rs.take j=rs):=Qh (List.take_of_length_le (by rw[W.out];omega));have V:=bh.out;have Y:=B.out;rw[Wo.out]at V Y;obtain⟨q,cq,rfl,h1,h2,Z,h4⟩:=nB V (E7 _)
   have l:∀x,q=some x→w.heap.size≤x.block:=fun x D=>by
    rcases V.2 with⟨h,_⟩|⟨g,cap,cur,h,U,_⟩
    ·simp only[Value.slice.injEq]at h
     rw[h.1]at D
     cases D
    ·simp only[Value.slice.injEq]at h
     rw[h.1]at D
     cases D
     exact U
   have MW:=Qh l;clear l;rw[iA]at Z;have X:=Qh (And.intro h1 (And.intro h2 Z));have O:=Qh Y;clear h1 h2 Z h4 V Y;go_wp2;go_ret2;refine⟨fun _=>⟨q,cq,rfl,X.out.1,X.out.2.1,X.out.2.2,MW.out⟩,fun D=>?_,R.out⟩;obtain⟨r,d,M⟩:=D;rw[O.out r d]at M
   cases M
theorem Ni {l t:List UInt8} {m:Nat} (h:ov l=some (t,m)):m≤l.length∧0<m∧t.length≤l.length:=by
 unfold ov at h;split at h
 ·cases h
 ·split at h
  ·cases h
  ·split at h
   ·cases h
   ·cases h
    refine⟨by omega,by omega,?_⟩;rw[Qg,Qe];omega
theorem Au (p:Option Addr) (n c:Nat) (bs:List UInt8) (w:World) (h0:0<n) (hn:bs.length=n) (hc:n≤c) (hm:n≤1000000000000) (h:cB w p n bs) (hN:Need w):
 Calls Tryz.prog 140 #[.slice p n c] w fun e w'=>e=.returned (nG (ov bs))∧Below w.heap.size w w':=by
 obtain⟨b,o,rfl,hcell⟩:=h h0;exact Dy b o n c bs w hn hc hm h hN
theorem kS (p0:Option Addr) (n0 c0:Nat) (bs:List UInt8) (w:World) (hn:bs.length=n0) (hc:n0≤c0) (hm:n0≤1000000000000) (h:cB w p0 n0 bs) (hN:Need w):
 Calls Tryz.prog 110 #[.slice p0 n0 c0] w (yK 5 9 bs w):=by
 have H:=Qh h;have M:=Qh hN;have HN:=Qh hn;have Y3:=Qh hm;have HC0:=Qh hc;obtain⟨i0,hi,fQ,eU,eX⟩:=info_parts EO;have HI:=Qh hi;have lr:=Qh fQ;have jZ:=Qh eU;have lu:=Qh eX;clear h hn hi fQ eU eX hN hm hc
 go_enter Tryz.func110,Tryz.ntmps110
 go_wp2_with fail
 go_loopw [0,4] (fun b o wr=>∃(l:List UInt8) (p:Option Addr) (n c:Nat) (acc:List (List UInt8 × List UInt8)),b=.slice p n c∧n≤c∧Hid (l.length=n)∧Hid (cB w p n l)∧Hid (wr.ownsRow w.heap.size 121 2 o acc.length (dF acc))∧Hid (gW 5 9 l acc=cG 5 9 bs)∧Hid (acc.length+n≤n0)∧Hid (Below w.heap.size w wr)) (fun b _ _=>match b with|.slice _ n _=>n|_=>0)
 case atStart=>exact⟨bs,p0,n0,c0,[],rfl,HC0.out,HN,H,Qh (World.ownsRow_nil _ _ _ _),Qh rfl,Qh (by simp),Qh (Below.refl _ _)⟩
 case round=>
  obtain⟨l,p,n,c,acc,rfl,Xx,L,W,bh,hr,hlen,A⟩:=hrel
  by_cases Sh:n=0
  ·subst Sh
   have hl:l=[]:=List.length_eq_zero_iff.1 L.out;have hG:Hid (cG 5 9 bs=(acc,0)):=Qh (by rw[←hr.out,hl,o4]);obtain⟨q,cq,rfl,h1,Z,h3⟩:=mj bh.out;have H3:=Qh (And.intro h1 (And.intro Z h3));clear hl h1 Z h3;go_wp2;go_ret2;refine⟨q,cq,by rw[hG.out];rfl,?_,H3.out.2.1,?_,A.out⟩
   ·rw[hG.out];exact H3.out.1
   ·rw[hG.out];exact H3.out.2.2
  ·have xF:(0:Int)<(n:Int):=by omega
   have Wf:Hid (0<n):=Qh (by omega);have rZ:Hid (l≠[]):=Qh (fun e=>by have:=L.out;rw[e]at this;exact Sh (by simpa using this.symm));have hsm:(n:Int)≤1000000000000:=by have:=hlen.out;have:=Y3.out;omega
   have HG:Hid (∀er,dA 5 9 l=.error er→cG 5 9 bs=([],er)):=Qh (fun er he=>by rw[←hr.out,jX 5 9 l rZ.out,he]);have R:=Qh (fun B h1 Z=>Au p n c l B Wf.out L.out Xx (by omega) h1 Z);have X:=Qh (yk 5 9 l);clear Sh
   cases hcut:ov l with
   |none=>
    rw[hcut]at R X;have E:Hid (cG 5 9 bs=([],5)):=Qh (HG.out 5 X.out);clear hcut;go_wp2_with fail;refine(R.out _ (W.out.below A.out) (M.out.below A.out)).mono ?_;unfold nG;rintro e B ⟨rfl,D⟩;have I:=Qh (A.out.trans (D.mono A.out.size));clear D;go_wp2;go_ret2;exact o5 5 9 bs w _ 5 E.out I.out
   |some x=>
    obtain⟨t,m⟩:=x;obtain⟨Ua,sO,zB⟩:=Ni hcut;rw[hcut]at R X;have d:Hid (m≤n∧0<m):=Qh (by have:=L.out;omega);have Ub:(m:Int)≤(n:Int):=by have:=d.out;omega
    have Z8:(0:Int)<(m:Int):=by omega
    have Ur:t.length≤1000000000000:=by have:=L.out;omega
    have Fw:=Qh Ur;have HQ:=Qh (fun B=>JU t B Fw.out);have f:=Qh (fun B h1=>kT t B Fw.out h1);clear hcut Ua sO zB Ur
    by_cases O:Lib.indexByte t 61<1
    ·have E:Hid (cG 5 9 bs=([],5)):=Qh (HG.out 5 (by
      rw[X.out];simp only
      rw[if_pos O]))
     by_cases r:0≤Lib.indexByte t 61
     ·have hz:Lib.indexByte t 61=0:=by omega
      have T:Hid (∀w,Calls Tryz.prog 141 #[.string (str t),.string ⟨#[61]⟩] w fun e w'=>e=.returned (.tuple #[.string ⟨#[]⟩,.string (str (t.drop 1)),.bool true])∧∃n,w'=w.drewN n):=Qh (fun B=>by
       have:=HQ.out B;unfold uB at this;rw[if_pos r,hz]at this
       exact this)
      clear O r hz;go_wp2_with fail;refine(R.out _ (W.out.below A.out) (M.out.below A.out)).mono ?_;unfold nG;rintro e B ⟨rfl,D⟩;have I:=Qh (A.out.trans (D.mono A.out.size));clear D;go_wp2_with fail;refine(T.out _).mono ?_;rintro e w2 ⟨rfl,J,rfl⟩;have G:=Qh (below_drewN I.out J);go_wp2;go_ret2;exact o5 5 9 bs w _ 5 E.out G.out
     ·have T:Hid (∀w,Calls Tryz.prog 141 #[.string (str t),.string ⟨#[61]⟩] w fun e w'=>e=.returned (.tuple #[.string (str t),.string (str []),.bool false])∧∃n,w'=w.drewN n):=Qh (fun B=>by
       have:=HQ.out B;unfold uB at this;rw[if_neg r]at this
       exact this)
      clear O r;go_wp2_with fail;refine(R.out _ (W.out.below A.out) (M.out.below A.out)).mono ?_;unfold nG;rintro e B ⟨rfl,D⟩;have I:=Qh (A.out.trans (D.mono A.out.size));clear D;go_wp2_with fail;refine(T.out _).mono ?_;rintro e w2 ⟨rfl,J,rfl⟩;have G:=Qh (below_drewN I.out J);go_wp2;go_ret2;exact o5 5 9 bs w _ 5 E.out G.out
    ·obtain⟨k,hk⟩:∃k:Nat,Lib.indexByte t 61=k:=⟨(Lib.indexByte t 61).toNat,by omega⟩
     obtain⟨kk,Y⟩:∃kk,t.take k=kk:=⟨_,rfl⟩
     obtain⟨vv,y⟩:∃vv,t.drop (k+1)=vv:=⟨_,rfl⟩
     have kJ:=(List.getElem?_eq_some_iff.1 (Lib.indexByte_some hk).1).1
     have ab1:(str kk).toList.isEmpty=false:=by
      rw[aV,decide_eq_false_iff_not,←Y];intro e;have:=congrArg List.length e;rw[Qg,List.length_nil]at this;omega
     have T:Hid (∀w,Calls Tryz.prog 141 #[.string (str t),.string ⟨#[61]⟩] w fun e w'=>e=.returned (.tuple #[.string (str kk),.string (str vv),.bool true])∧∃n,w'=w.drewN n):=Qh (fun B=>by
      have:=HQ.out B;unfold uB at this;rw[if_pos (by omega),hk,Int.toNat_natCast]at this;simp only[Y,y]at this
      exact this)
     cases V:aQ t with
     |false=>
      rw[V]at f
      have E:Hid (cG 5 9 bs=([],9)):=Qh (HG.out 9 (by
       rw[X.out];simp only
       rw[if_neg O,if_pos V]))
      clear O hk Y y V kJ;go_wp2_with fail;refine(R.out _ (W.out.below A.out) (M.out.below A.out)).mono ?_;unfold nG;rintro e B ⟨rfl,D⟩;have I:=Qh (A.out.trans (D.mono A.out.size));clear D;go_wp2_with fail;refine(T.out _).mono ?_;rintro e w2 ⟨rfl,J,rfl⟩;have G:=Qh (below_drewN I.out J);go_wp2_with fail;refine(f.out _ (M.out.below G.out).yr).mono ?_;rintro e w3 ⟨rfl,U⟩;have z:=Qh (G.out.trans (U.mono G.out.size));clear U;go_wp2;go_ret2;exact o5 5 9 bs w _ 9 E.out z.out
     |true=>
      rw[V]at f
      have sa:Hid (gW 5 9 (l.drop m) (acc++[(kk,vv)])=cG 5 9 bs):=Qh (by
       rw[←hr.out,jX 5 9 l rZ.out,X.out];simp only;rw[if_neg O,if_neg (by rw[V];simp),hk,Int.toNat_natCast]
       simp only[Y,y])
      have Fu:Hid (cB w (if c=m then p else p.map (·.add m)) (n - m) (l.drop m)):=Qh (W.out.drop d.out.1 Xx L.out);have Ji:Hid ((l.drop m).length=n - m):=Qh (by rw[Qe,L.out]);clear O hk Y y V kJ;go_wp2_with fail;refine(R.out _ (W.out.below A.out) (M.out.below A.out)).mono ?_;unfold nG;rintro e B ⟨rfl,D⟩;have I:=Qh (A.out.trans (D.mono A.out.size));have V9:=Qh (cR bh.out D);clear D;go_wp2_with fail;refine(T.out _).mono ?_;rintro e w2 ⟨rfl,J,rfl⟩;have G:=Qh (below_drewN I.out J);have U7:=Qh (cR V9.out (below_drewN (Below.refl B.heap.size B) J));go_wp2_with fail;refine(f.out _ (M.out.below G.out).yr).mono ?_;rintro e w3 ⟨rfl,U⟩;have z:=Qh (G.out.trans (U.mono G.out.size));have HO3:=Qh (cR U7.out U);clear U;have MV:Hid (World.ownsRow (w3.alloc (.cells #[.string (str kk),.string (str vv)] 121)) w.heap.size 121 2 u4 acc.length (dF acc)):=Qh (HO3.out.alloc _);have qc:Hid (Below w.heap.size w (w3.alloc (.cells #[.string (str kk),.string (str vv)] 121))):=Qh (z.out.alloc z.out.size _)
      have MI:Hid (∀j u,([Value.string (str kk),.string (str vv)]:List Value)[j]? =some u→(w3.alloc (.cells #[.string (str kk),.string (str vv)] 121)).cell? ((⟨w3.heap.size,0,none⟩:Addr).add j)=some u):=Qh (fun j u N=>by
       obtain⟨g0,g1⟩:=su w3 121 (.string (str kk)) (.string (str vv))
       match j,N with
       |0,N=>cases N;exact g0
       |1,N=>cases N;exact g1
       |j+2,N=>simp at N)
      have Pw:Hid (acc.length+1≤1000000000001):=Qh (by have:=hlen.out;have:=Y3.out;omega);have Wm:Hid (w.heap.size≤(w3.alloc (.cells #[.string (str kk),.string (str vv)] 121)).heap.size):=Qh qc.out.size
      go_wp2_with (at_builtin;refine wpList_append_own _ rfl _ _ 64 rfl w.heap.size 121 i0 (.agg #[.string ⟨#[]⟩,.string ⟨#[]⟩]) 2 32 Tryz.underlying64 HI.out lr.out jZ.out lu.out rfl (by decide) _ acc.length (dF acc) rfl MV.out ⟨w3.heap.size,0,none⟩ 1 1 [.string (str kk),.string (str vv)] rfl rfl MI.out (by
       intro u hu;rcases List.mem_cons.1 hu with rfl|hu
       ·rfl
       ·rcases List.mem_cons.1 hu with rfl|hu
        ·rfl
        ·(cases hu)) (by have:=Pw.out;unfold maxLen;omega) (by have:=Pw.out;omega) Wm.out ?_)
      intro v' w4 j9 bw _
      have MU:Hid (w4.ownsRow w.heap.size 121 2 v' (acc++[(kk,vv)]).length (dF (acc++[(kk,vv)]))):=Qh (by
       rw[Cf,Qf];exact j9)
      have la:Hid (Below w.heap.size w w4):=Qh (qc.out.grown bw qc.out.size (fun b hb=>by
       rcases MV.out.2 with⟨rfl,_⟩|⟨g,cap,cur,rfl,bZ,_⟩
       ·cases hb
       ·cases hb;exact bZ))
      clear j9 bw;go_wp2_with fail;go_roundw
      case rel=>exact⟨l.drop m,_,n - m,c - m,acc++[(kk,vv)],rfl,by omega,Ji,Fu,MU,sa,Qh (by have Z:=hlen.out;have:=d.out;rw[Qf];simp only[List.length_cons,List.length_nil];omega),la⟩
      case measure=>have:=d.out;simp;omega
end Rec
namespace Wr
open Bk Hp Head Rec Mem Block
variable {cs:Array Value} {b:Nat} {t:TypeId}
theorem Oa {w:World} {B n:Nat} {v:Value} {bs:List UInt8} (ho:eR w B v n bs) (hb:ao w b t cs) (ht:t≠5):v.ownBlock≠some b:=fun e=>by
 rcases ho.2 with⟨rfl,_⟩|⟨g,cap,cur,rfl,_,hg,_⟩
 ·cases e
 ·have A:g=b:=by simpa [Value.ownBlock]using e
  subst A;unfold ao at hb;rw[hb]at hg;simp only[Option.some.injEq,Obj.cells.injEq]at hg;exact ht hg.2.1
theorem E9 (l:List UInt8):ki l=l++jK l.length:=rfl
theorem wD {w w2 w':World} {g B:Nat} {v:Value} {X xs:List UInt8} (hk:Kept ag w w2) (h:dz w2 g B v X xs e w'):dz w g B v X xs e w':=by
 obtain⟨v',he,h1,A,D⟩:=h;exact⟨v',he,h1,(hk.dZ _).trans A,fun k E=>(D k E).imp id (Nat.le_trans hk.size)⟩
structure Laid (w:World) (g B:Nat) (v:Value) (wx:World) (v':Value) (Y:List UInt8):Prop where
 qQ:rA wx g B v' Y
 kept:Kept (Dt g v) w wx
 new:eW w v v'
section
variable {w wx wy:World} {g B:Nat} {v v':Value} {X Y xs:List UInt8}
theorem Laid.start (h:rA w g B v X):Laid w g B v w v X:=⟨h,Kept.refl _ _,eW.refl _ _⟩
theorem Laid.after (h:Laid w g B v wx v' Y) (hk:Kept ag wx wy):Laid w g B v wy v' Y:=⟨h.qQ.kept hk id (fun _ _=>id),h.kept.trans (hk.dZ _),h.new⟩
theorem Laid.step (h:Laid w g B v wx v' Y) (hp:dz wx g B v' Y xs e wy):∃ME,e=.returned (.tuple #[])∧Laid w g B v wy ME (Y++xs)∧Kept (Dt g v') wx wy∧eW wx v' ME:=by
 obtain⟨u,he,h1,A,D⟩:=hp;refine⟨u,he,⟨h1,h.kept.then A (fun i hi=>?_),h.new.trans D h.kept.size⟩,A,D⟩;rcases hi with hi|hi
 ·exact .inr (.inl hi)
 ·rcases h.new i hi with h4|h4
  ·exact .inr (.inr h4)
  ·exact .inl h4
theorem Laid.ei (h:Laid w g B v wx v' Y) (hk:Kept (Dt g v') wx wy) (hb:ao wx b t cs) (h8:t≠5) (hS:b≠g):ao wy b t cs:=
 hb.bW hk (fun e=>by
  rcases e with e|e
  ·exact hS e
  ·exact Oa h.qQ.own hb h8 e)
theorem Laid.post (h:Laid w g B v wx v' (X++Y)) (he:e=.returned (.tuple #[])):dz w g B v X Y e wx:=⟨v',he,h.qQ,h.kept,h.new⟩
end
theorem IA (w:World) (g B:Nat) (v:Value) (X:List UInt8) (h:rA w g B v X) (hB:B≤w.heap.size) (q1:Option Addr) (m1 c1:Nat) (x1:List UInt8)
 (h1:cB w q1 m1 x1) (l1:x1.length=m1) (o1:0<m1→∀x,q1=some x→v.ownBlock≠some x.block) (lQ:X.length+m1≤140737488351232):
 Calls Tryz.prog 85 #[.pointer (some ⟨g,0,none⟩),.slice (some ⟨w.heap.size,0,none⟩) 1 1] (w.alloc (.cells #[.slice q1 m1 c1] 26)) (dz w g B v X x1):=by
 have hk:Kept ag w (w.alloc (.cells #[.slice q1 m1 c1] 26)):=(Kept.refl _ w).alloc _;have A:=sr x1;rw[←A];refine(tX _ g B v X (h.kept hk id (fun _ _=>id)) (Nat.le_trans hB hk.size) _ 1 1 (fun _=>q1) (fun _=>m1) (fun _=>c1) (fun _=>x1) ?_ (by decide) ?_ ?_ ?_).mono ?_
 ·intro _
  refine⟨w.heap.size,0,rfl,by simp,fun i hi=>?_⟩
  match i,hi with
  |0,_=>exact⟨by simp,h1.kept hk (fun _ _ _=>id),l1⟩
 ·intro _ x D
  cases D
  have E:=h.lt;refine⟨by show w.heap.size≠g;omega,fun e=>?_⟩;have:w.heap.size<w.heap.size:=(h.own.lt _ e).2;omega
 ·intro i hi
  match i,hi with
  |0,_=>exact o1
 ·rw[A,Qf,l1];omega
 ·rintro e w' h
  exact wD hk h
theorem qC (w:World) (g B:Nat) (v:Value) (X:List UInt8) (hs:rA w g B v X) (hB:B≤w.heap.size) (h:ak) (Q4:∀i,(Lit.int .i64 (jV h i)).wf=true) (Ja:h.name.length≤140737488351232) (I8:h.link.length≤140737488351232)
 (bs:List UInt8) (hp:fa h=some bs) (hl:bs.length=512) (lQ:X.length+512≤140737488351232):
 Calls Tryz.prog 83 #[.pointer (some ⟨g,0,none⟩),.agg (aa h)] w (dz w g B v X bs):=by
 unfold aa;obtain⟨W,H⟩:∃W,w.alloc (.cells #[.string (str h.name),.string (str h.link),.int .u8 (h.kind.toNat:Int),.int .i64 h.mode,.int .i64 h.uid,.int .i64 h.gid,.int .i64 h.time,.int .i64 h.size,.bool h.fh] 66)=W:=⟨_,rfl⟩
 have U:Kept ag w W:=by rw[←H];exact(Kept.refl _ w).alloc _
 have G:=Lp h Q4 Ja I8 W;rw[hp]at G;have Z:=Qh H;have J:=Qh U;have Y:=Qh G;have M:=Qh hs;have L:=Qh hl;clear H U G hs hl hp
 go_enter Tryz.func83,Tryz.ntmps83
 go_wp2_with fail
 rw[show w.alloc (.cells #[.string (str h.name),.string (str h.link),.int .u8 (h.kind.toNat:Int),.int .i64 h.mode,.int .i64 h.uid,.int .i64 h.gid,.int .i64 h.time,.int .i64 h.size,.bool h.fh] 66)=W from Z.out];refine Y.out.mono ?_;rintro e f ⟨O,(⟨bs',R,A,rfl,N,c⟩|⟨A,_⟩)⟩
 case inr=>cases A
 obtain rfl:bs=bs':=Option.some.inj A;have I:=N.gZ;rw[L.out]at I;have D:=Qh (J.out.trans O)
 have b:=Qh (IA f g B v X (M.out.kept D.out id (fun _ _=>id)) (Nat.le_trans hB D.out.size) (some ⟨R,0,none⟩) 512 512 bs I L.out (fun _ x d e=>by
  cases d
  have h1:=(M.out.own.lt _ e).2;have l:R<w.heap.size:=h1;have E:=J.out.size
  omega) (by omega))
 clear A O N c I;go_wp2_with fail;refine b.out.mono ?_;rintro e w3 E;obtain⟨v3,rfl,T⟩:=wD D.out E;have V:=Qh T;clear E T;go_wp2
 go_end0
 exact⟨v3,rfl,V.out⟩
end Wr
namespace Wr
open Bk Hp Head Rec Attr Mem Block
theorem Az {m:av} (h:dh m):(aO m).length≤5∧∀r∈aO m,r.1.length+r.2.length≤1000000000000:=by
 refine⟨?_,fun r A=>by have:=(kg (gE h r A)).2.2.2.2;omega⟩;have d:∀(c:Prop) [Decidable c] (k v:List UInt8),(if c then[(k,v)]else[]).length≤1:=fun c _ k v=>by split<;>simp
 simp only[aO,Qf];have d1:=d (iv m=true) (aI 4) m.path;have d2:=d (fY m=true) (aI 5) m.target;have d3:=d (2097151<m.uid) (aI 0) (aJ m.uid.toNat);have d4:=d (2097151<m.gid) (aI 1) (aJ m.gid.toNat);have d5:=d (8589934591<m.time) (aI 2) (aJ m.time.toNat);omega
structure LI (w:World) (g B:Nat) (v:Value) (M:Array Value) (hb:Nat) (h:ak) (p:Option Addr) (bs:List UInt8) (wx:World) (v':Value) (Y:List UInt8):Prop where
 laid:Laid w g B v wx v' Y
 mem:ao wx w.heap.size 48 M
 hd:ao wx hb 66 (aa h)
 body:cB wx p bs.length bs
 off:0<bs.length→∀x,p=some x→v'.ownBlock≠some x.block
section
variable {w wx wy:World} {g B hb:Nat} {v v':Value} {M:Array Value} {h:ak} {p:Option Addr} {bs Y xs:List UInt8}
theorem LI.after (i:LI w g B v M hb h p bs wx v' Y) (hk:Kept ag wx wy):LI w g B v M hb h p bs wy v' Y:=
 ⟨i.laid.after hk,i.mem.bW hk id,i.hd.bW hk id,i.body.kept hk (fun _ _ _=>id),i.off⟩
theorem LI.step (i:LI w g B v M hb h p bs wx v' Y) (hg:g<w.heap.size) (hhb:w.heap.size≤hb) (hp:0<bs.length→∀x,p=some x→x.block<w.heap.size∧v.ownBlock≠some x.block) (q:dz wx g B v' Y xs e wy):
 ∃ME,e=.returned (.tuple #[])∧LI w g B v M hb h p bs wy ME (Y++xs)∧Kept (Dt g v') wx wy∧eW wx v' ME:=by
 obtain⟨ME,he,l,k,E⟩:=i.laid.step q;refine⟨ME,he,⟨l,i.laid.ei k i.mem (by decide) (by omega),i.laid.ei k i.hd (by decide) (by omega),i.body.kept k (fun A x D e=>?_),fun A x D e=>?_⟩,k,E⟩
 ·rcases e with e|e
  ·exact nC i.body i.laid.qQ A x D e
  ·exact i.off A x D e
 ·rcases l.new _ e with e|e
  ·exact(hp A x D).2 e
  ·have:=(hp A x D).1
   omega
end
def PX (w:World) (g B:Nat) (v:Value) (X H:List UInt8) (M:Array Value) (hb:Nat) (m:av) (p:Option Addr) (wx:World):Prop:=
 ∃v' Y,LI w g B v M hb (bj m) p m.body wx v' (X++Y)∧fU m=Y++(H++ki m.body)∧Y.length≤1100000
theorem xQ (w:World) (g B:Nat) (v:Value) (X:List UInt8) (hs:rA w g B v X) (hB:B≤w.heap.size) (m:av) (p:Option Addr) (c:Nat) (hg:dh m) (hb:cB w p m.body.length m.body)
 (fA:0<m.body.length→∀x,p=some x→v.ownBlock≠some x.block) (lQ:X.length+4000000≤140737488351232) (hN:Need w):
 Calls Tryz.prog 53 #[.pointer (some ⟨g,0,none⟩),.agg (cO m p c)] w (dz w g B v X (fU m)):=by
 obtain⟨H,T,Z4,Ez⟩:=Ig hg;obtain⟨yB,U⟩:=Az hg;have T7:=ke hg;have OX:=hg.body;have TR:=hs.lt
 have Uj:0<m.body.length→∀x,p=some x→x.block<w.heap.size∧v.ownBlock≠some x.block:=fun G x E=>⟨by
  obtain⟨b,o,he,j0,_⟩:=hb.cell G;rw[E]at he
  cases he
  exact j0,fA G x E⟩
 obtain⟨bl,iE⟩:∃bl,m.body.length=bl:=⟨_,rfl⟩
 obtain⟨n,hn⟩:∃n,(aO m).length=n:=⟨_,rfl⟩
 obtain⟨W0,sI⟩:∃W0,w.alloc (.cells (cO m p c) 48)=W0:=⟨_,rfl⟩
 have z:Kept ag w W0:=by rw[←sI];exact(Kept.refl _ w).alloc _
 have Zz:ao W0 w.heap.size 48 (cO m p c):=by rw[←sI];exact ao.new w _ _
 have Tt:=Iz m p c W0 hg (hN.below (z.below (Qk _) (fun _ h=>h.elim)));have Zw:Laid w g B v W0 v X:=(Laid.start hs).after z;have We:=Qh (And.intro T Z4);have Su:=Qh Ez;have yz:=Qh (And.intro yB U);have y:=Qh T7;have t:=Qh Uj;have l:=Qh TR;have j1:=Qh z;have iy:=Qh Zz;have PT:=Qh Tt;have Y0:=Qh Zw;have HN:=Qh hN;have f:=Qh hg;have VS:=Qh hb;have ic:=Qh fA;have M1:=Qh sI;have M:=Qh iE;have r:=Qh hn;have eN:=Qh hB;have UZ:=Qh OX;unfold cO at PT M1⊢;rw[iE]at PT M1⊢;clear T Z4 Ez yB U T7 Uj TR z Zz Tt Zw hN hg hb fA sI iE hn hB OX hs
 go_enter Tryz.func53,Tryz.ntmps53
 go_wp2_with fail
 rw[M1.out];refine PT.out.mono ?_;rintro e D ⟨q,d,rfl,h1,h2,h3,O⟩;rw[r.out]at h1 h3⊢;unfold aa;have HR:=Qh (And.intro h1 (And.intro h2 h3));have b8:=Qh O;clear h1 h2 h3 O;go_upto_if 15 with fail;obtain⟨w2,Z⟩:∃w2,D.alloc (.cells #[.string (str (bj m).name),.string (str (bj m).link),.int .u8 ((bj m).kind.toNat:Int),.int .i64 (bj m).mode,.int .i64 (bj m).uid,.int .i64 (bj m).gid,.int .i64 (bj m).time,.int .i64 (bj m).size,.bool (bj m).fh] 66)=w2:=⟨_,rfl⟩
 have I:Kept ag D w2:=by rw[←Z];exact(Kept.refl _ D).alloc _
 have XM:ao w2 D.heap.size 66 (aa (bj m)):=by rw[←Z];exact ao.new D _ _
 have N:=Kept.aS b8.out ag;have fZ:Hid (w.heap.size≤D.heap.size):=Qh (Nat.le_trans j1.out.size b8.out.size);have bI:Hid (Below w.heap.size w w2):=Qh ((j1.out.trans (N.trans I)).below (Qk _) (fun _ h=>h.elim));have u:Hid (LI w g B v (cO m p c) D.heap.size (bj m) p m.body w2 v X):=Qh ⟨(Y0.out.after N).after I,(iy.out.bW N id).bW I id,XM,VS.out.kept (j1.out.trans (N.trans I)) (fun _ _ _=>id),ic.out⟩;have po:Hid (cd w2 q n (aO m)):=Qh (HR.out.2.2.below (I.below (Qk _) (fun _ h=>h.elim)));have Y4:=Qh (HN.out.below bI.out);rw[Z];clear Z I XM N
 go_cut [6] (fun _ wx=>PX w g B v X H (cO m p c) D.heap.size m p wx)
 case first=>
  rcases Su.out with⟨hr,he⟩|⟨hr,Xh,x1,x2,he⟩
  ·have hz:¬(0:Int)<(n:Int):=by have:=r.out;rw[hr]at this;simp at this;omega
   have J:=Qh he;clear hr he;go_wp2;go_meet;exact⟨v,[],by rw[List.append_nil];exact u.out,by rw[List.nil_append];exact J.out,by simp⟩
  ·have hz:(0:Int)<(n:Int):=by
    have:=List.length_pos_iff.2 hr;rw[r.out]at this;omega
   have J:=Qh he;have V:=Qh (And.intro x1 x2);clear hr he x1 x2;go_wp2_with fail;refine(DA q n d (aO m) w2 (by have:=yz.out.1;rw[r.out]at this;omega) po.out yz.out.2 Y4.out).mono ?_;rintro e w3 ⟨hy,_,fr⟩;obtain⟨p3,c3,rfl,Zm,h32,WQ,RX⟩:=hy (gE f.out);obtain⟨L,hL⟩:∃L,(aN (aO m)).length=L:=⟨_,rfl⟩
   have Jk:=Qh hL;rw[hL]at Zm WQ V y⊢;have W:=Qh (And.intro WQ RX);have D5:=Qh (u.out.after (Kept.aS fr ag));have RP:Hid (w2.heap.size≤w3.heap.size):=Qh fr.size;have ff:=Qh (bI.out.trans (fr.mono bI.out.size))
   have hH:Calls Tryz.prog 83 #[.pointer (some ⟨g,0,none⟩),.agg #[.string ⟨#[64,112,97,120]⟩,.string ⟨#[]⟩,.int .u8 120,.int .i64 0,.int .i64 0,.int .i64 0,.int .i64 0,.int .i64 (L:Int),.bool false]] w3 (dz w3 g B v X Xh):=
    qC w3 g B v X D5.out.laid.qQ (Nat.le_trans eN.out ff.out.size) (yg L) (Ob y.out) (by show(4:Nat)≤_;decide) (by show(0:Nat)≤_;decide) Xh V.out.1 V.out.2 (by omega)
   have HH:=Qh hH;clear hy fr hL Zm h32 WQ RX hH;go_wp2_with fail;refine HH.out.mono ?_;rintro e w4 O;obtain⟨v4,rfl,i4,k4,n4⟩:=D5.out.step l.out fZ.out t.out O
   have fS:cB w4 p3 L (aN (aO m)):=W.out.1.kept k4 (fun G x E e=>by
    rcases e with e|e
    ·exact nC W.out.1 D5.out.laid.qQ G x E e
    ·have a1:=(Y0.out.qQ.own.lt _ e).2
     have a2:=W.out.2 x E;have a3:=j1.out.size;have a4:=bI.out.size;have a5:=b8.out.size;have a6:=(u.out.laid.qQ.own.lt _ e).2
     omega)
   have R:0<L→∀x,p3=some x→v4.ownBlock≠some x.block:=fun G x E e=>by
    have a2:=W.out.2 x E;obtain⟨b,o,he,j0,_⟩:=W.out.1.cell G;rw[E]at he
    cases he
    rcases n4 _ e with e|e
    ·have a6:=(u.out.laid.qQ.own.lt _ e).2
     change w2.heap.size≤b at a2;change b<w2.heap.size at a6;omega
    ·change w3.heap.size≤b at e
     omega
   have nW:=Qh fS;have HO4:=Qh R;have D6:=Qh i4;have PS:Hid (w3.heap.size≤w4.heap.size):=Qh k4.size;clear O i4 k4 n4 fS R;go_wp2_with fail;refine(wN w4 g B v4 (X++Xh) D6.out.laid.qQ (by have:=eN.out;have:=ff.out.size;have:=PS.out;omega) p3 L c3 (aN (aO m)) nW.out Jk.out HO4.out (by rw[Qf,V.out.2];have:=rP L;have:=y.out;omega)).mono ?_;rintro e w5 h5;obtain⟨v5,rfl,i5,_,_⟩:=D6.out.step l.out fZ.out t.out h5
   have rW:Hid (LI w g B v (cO m p c) D.heap.size (bj m) p m.body w5 v5 (X++(Xh++ki (aN (aO m))))):=Qh (by
    rw[E9,Jk.out,←List.append_assoc]
    exact i5)
   clear h5 i5;go_wp2;go_meet;refine⟨v5,_,rW.out,by rw[J.out],?_⟩;rw[Qf,bB,V.out.2,Jk.out];have:=(j4 L).2;have:=y.out;omega
 case rest=>
  obtain⟨v6,Y,i6,he,hy⟩:=hcut;have A:=i6.hd;have z0:=A.cell 0;have z1:=A.cell 1;have z2:=A.cell 2;have z3:=A.cell 3;have z4:=A.cell 4;have z5:=A.cell 5;have z6:=A.cell 6;have z7:=A.cell 7;have z8:=A.cell 8;simp only[aa,Qc,Qa,Qb]at z0 z1 z2 z3 z4 z5 z6 z7 z8;have HI6:=Qh i6;have J:=Qh he;have HYL:=Qh hy;have YS:Hid (B≤wc.heap.size):=Qh (Nat.le_trans eN.out i6.laid.kept.size);have hH:=qC wc g B v6 (X++Y) i6.laid.qQ YS.out (bj m) (Ki f.out) (zt f.out).1 (zt f.out).2 H We.out.1 We.out.2 (by rw[Qf];omega);unfold aa at hH;have HH:=Qh hH;clear A i6 he hy hH;go_wp2_with fail;refine HH.out.mono ?_;rintro e w7 h7;obtain⟨v7,rfl,i7,k7,_⟩:=HI6.out.step l.out fZ.out t.out h7;have y7:=i7.mem.cell 7;simp only[cO,Qc,Qa,Qb]at y7;rw[M.out]at y7;have pH:=i7.body;have X9:=i7.off;rw[M.out]at pH X9;have Ss:=Qh pH;have HOF:=Qh X9;have YW:=Qh i7;have HS7:Hid (wc.heap.size≤w7.heap.size):=Qh k7.size;clear h7 i7 k7 z0 z1 z2 z3 z4 z5 z6 z7 z8 pH X9;go_wp2_with fail;refine(wN w7 g B v7 (X++Y++H) YW.out.laid.qQ (Nat.le_trans YS.out HS7.out) p bl c m.body Ss.out M.out HOF.out (by rw[Qf,Qf,We.out.2];have:=rP bl;have:=UZ.out;have:=M.out;have:=HYL.out;omega)).mono ?_;rintro e w8 h8;obtain⟨v8,rfl,i8,_,_⟩:=YW.out.step l.out fZ.out t.out h8
  have HF:Hid (Laid w g B v w8 v8 (X++fU m)):=Qh (by
   have:=i8.laid;rw[J.out,E9,M.out];rw[show X++(Y++(H++(m.body++jK bl)))=X++Y++H++(m.body++jK bl) by simp only[List.append_assoc]]
   exact this)
  clear h8 i8 y7;go_wp2
  go_end0
  exact⟨v8,rfl,HF.out.qQ,HF.out.kept,HF.out.new⟩
end Wr
end Go.Proofs.YtdhibldkldlfpaaGreatDoor
