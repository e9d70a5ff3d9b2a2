/- Merged. -/
import Derived.Test.YtdhibldkldlfpaaGreatDoorEmitPacksX19
import Derived.Shelf.Unicode.ValidAny
import Derived.Test.YtdhibldkldlfpaaGreatDoorEmitPacksX25
import Derived.Test.YtdhibldkldlfpaaGreatDoorEmitPacksX30
import Derived.Test.YtdhibldkldlfpaaGreatDoorEmitPacksX17
import Derived.Test.YtdhibldkldlfpaaGreatDoorEmitPacksX31
namespace Go.Proofs.YtdhibldkldlfpaaGreatDoor
set_option linter.unusedVariables false
set_option maxHeartbeats 8000000
set_option maxRecDepth 100000
open Go.ChangeShapes Go.WideShapes Go.ChangeAt Go.RowKit Base cf cN Go.Lib
variable {e:Ending}
namespace Path
open Go.Shelf rr
theorem zi (l:List UInt8) (w:World) (hm:l.length≤140737488351232) (hT:Tabs w):
 Calls Tryz.prog 148 #[.string (str l)] w fun e w'=>e=.returned (.bool (aZ l))∧Below w.heap.size w w':=by
 have B:=Any.utf8_ValidString Tryz.laysValid (str l) w (by rw[ak];omega) hT;have A:=fun w=>Any.strings_Contains_one Tryz.rN (str l) 0 w
 rw[aU]at B;simp only[aU,rM]at A;rw[xm];have mixed:Tryz.prog.follows .mixedOrders=true:=by kernel_rfl
 clear hT hm
 cases E:Lib.validD l with
 |false=>
  rw[E]at B;clear A
  go_enter Tryz.func148,Tryz.ntmps148
  go_wp2_with (go_at_call 185;refine B.mono ?_;rintro e G ⟨rfl,D⟩)
  go_ret;exact⟨rfl,D⟩
 |true=>
  rw[E]at B
  cases hc:l.contains 0 with
  |false=>
   rw[hc]at A
   go_enter Tryz.func148,Tryz.ntmps148
   go_wp2_with (first|(go_at_call 185;refine B.mono ?_;rintro e G ⟨rfl,D⟩)|(go_at_call 157;refine(A _).mono ?_;rintro e H ⟨rfl,rfl⟩))
   go_ret;exact⟨rfl,D⟩
  |true=>
   rw[hc]at A
   go_enter Tryz.func148,Tryz.ntmps148
   go_wp2_with (first|(go_at_call 185;refine B.mono ?_;rintro e G ⟨rfl,D⟩)|(go_at_call 157;refine(A _).mono ?_;rintro e H ⟨rfl,rfl⟩))
   go_ret;exact⟨rfl,D⟩
theorem xk (l:List UInt8) (w:World) (hm:l.length≤140737488351232) (hT:Tabs w):
 Calls Tryz.prog 153 #[.string (str l)] w fun e w'=>e=.returned (.int .i64 (dL 9 6 l))∧Below w.heap.size w w':=by
 have A:=zi l w hm hT;have hs:(str l).size=l.length:=ak l;unfold dL;clear hT
 cases D:aZ l with
 |false=>
  rw[D]at A;rw[if_pos rfl];clear hm hs
  go_enter Tryz.func153,Tryz.ntmps153
  go_wp2_with (go_at_call 148;refine A.mono ?_;rintro e E ⟨rfl,B⟩)
  go_ret;exact⟨rfl,B⟩
 |true=>
  rw[D]at A;rw[if_neg (by simp)];obtain⟨n,G⟩:∃n,(str l).size=n:=⟨_,rfl⟩
  by_cases h:l=[]∨200<l.length
  ·have hi:MV (n:Int) 1 200=false:=by
    refine jR ?_;rw[←G,hs];rcases h with rfl|h
    ·simp
    ·omega
   rw[if_pos h];clear hm hs h
   go_enter Tryz.func153,Tryz.ntmps153
   go_wp2_with (first|(go_at_call 148;refine A.mono ?_;rintro e E ⟨rfl,B⟩)|(go_at_call 152;refine(mh _ _ _ _).mono ?_;rw[hi];rintro e H ⟨rfl,rfl⟩))
   go_ret;exact⟨rfl,B⟩
  ·have hi:MV (n:Int) 1 200=true:=by
    have:0<l.length:=List.length_pos_iff.2 fun e=>h (.inl e)
    exact gN (by omega) (by omega)
   rw[if_neg h];clear hm hs h
   go_enter Tryz.func153,Tryz.ntmps153
   go_wp2_with (first|(go_at_call 148;refine A.mono ?_;rintro e E ⟨rfl,B⟩)|(go_at_call 152;refine(mh _ _ _ _).mono ?_;rw[hi];rintro e H ⟨rfl,rfl⟩))
   go_ret;exact⟨rfl,B⟩
end Path
namespace Rec
open Go.Shelf Path
theorem mE (l:List UInt8) (w:World) (hm:l.length≤1000000000000) (hT:Tabs w):
 Calls Tryz.prog 142 #[.string (str l)] w fun e w'=>e=.returned (.bool (aZ l))∧Below w.heap.size w w':=by
 have A:=xk l w (by omega) hT;obtain⟨r,D⟩:∃r,dL 9 6 l=r:=⟨_,rfl⟩
 have E:(r != 9)=aZ l:=by
  rw[←D];unfold dL
  cases aZ l with
  |false=>rfl
  |true=>
   rw[if_neg (by simp)];split<;>rfl
 rw[D]at A;clear hT hm D
 cases G:aZ l with
 |false=>
  rw[G]at E
  go_enter Tryz.func142,Tryz.ntmps142
  go_wp2_with (go_at_call 153;refine A.mono ?_;rintro e H ⟨rfl,B⟩)
  go_ret;exact⟨rfl,B⟩
 |true=>
  rw[G]at E
  go_enter Tryz.func142,Tryz.ntmps142
  go_wp2_with (go_at_call 153;refine A.mono ?_;rintro e H ⟨rfl,B⟩)
  go_ret;exact⟨rfl,B⟩
def xD (l:List UInt8):List UInt8 × List UInt8 × Bool:=
 if 0≤Lib.indexByte l 61 then(l.take (Lib.indexByte l 61).toNat,l.drop ((Lib.indexByte l 61).toNat+1),true)else(l,[],false)
theorem GV (l:List UInt8) (w:World) (hm:l.length≤1000000000000):
 Calls Tryz.prog 181 #[.string (str l),.string ⟨#[61]⟩] w fun e w'=>e=.returned (.tuple #[.string (str (xD l).1),.string (str (xD l).2.1),.bool (xD l).2.2])∧∃n,w'=w.drewN n:=by
 have A:=Any.stringslite_Index_one Tryz.rO (str l) 61 w;rw[aU]at A;have hs:(str l).size=l.length:=ak l;unfold xD
 by_cases h:0≤Lib.indexByte l 61
 ·obtain⟨k,hk⟩:∃k:Nat,Lib.indexByte l 61=k:=⟨(Lib.indexByte l 61).toNat,by omega⟩
  have G:=(List.getElem?_eq_some_iff.1 (Lib.indexByte_some hk).1).1;rw[if_pos h,hk,Int.toNat_natCast];rw[hk]at A;clear h hk;simp only;have B:(str l).extract 0 k=str (l.take k):=xh l k;have D:(str l).extract (k+1) (str l).size=str (l.drop (k+1)):=xg l (k+1) _ hs;rw[←B,←D];have c1:(0:Int)≤(k:Int):=by omega
  have c2:(k:Int)≤((str l).size:Int):=by omega
  have c3:(0:Int)≤(k:Int)+1:=by omega
  have c4:(k:Int)+1≤((str l).size:Int):=by omega
  have c5:((str l).size:Int)≤1000000000000:=by omega
  clear B D;have mixed:Tryz.prog.follows .mixedOrders=true:=by kernel_rfl
  go_enter Tryz.func181,Tryz.ntmps181
  go_wp2_with (go_at_call 208;refine A.mono ?_;rintro e w' ⟨rfl,rfl⟩)
  go_region_o
  go_wp2
  go_ret3
  exact⟨rfl,1,rfl⟩
 ·rw[if_neg h]
  have E:Lib.indexByte l 61=-1:=by have:=Lib.indexByte_ge l 61;omega
  rw[E]at A;clear h E
  go_enter Tryz.func181,Tryz.ntmps181
  go_wp2_with (go_at_call 208;refine A.mono ?_;rintro e w' ⟨rfl,rfl⟩)
  go_ret3
  exact⟨rfl,0,rfl⟩
theorem NC (l:List UInt8) (w:World) (hm:l.length≤1000000000000):
 Calls Tryz.prog 141 #[.string (str l),.string ⟨#[61]⟩] w fun e w'=>e=.returned (.tuple #[.string (str (xD l).1),.string (str (xD l).2.1),.bool (xD l).2.2])∧∃n,w'=w.drewN n:=by
 have hc:=GV l w hm
 go_enter Tryz.func141,Tryz.ntmps141
 go_wp2_with (go_at_call 181;refine hc.mono ?_;rintro e w' ⟨rfl,n,rfl⟩)
 go_ret3
 exact⟨rfl,n,rfl⟩
theorem AO (k v:List UInt8) (w:World) (hk:k.length≤1000000000000) (hv:v.length≤1000000000000) (hN:Need w):
 Calls Tryz.prog 155 #[.agg #[.string (str k),.string (str v)]] w fun e w'=>e=.returned (.bool (iB k v))∧Below w.heap.size w w':=by
 obtain⟨a,L⟩:∃a,a=str k:=⟨_,rfl⟩
 obtain⟨b,W⟩:∃b,b=str v:=⟨_,rfl⟩
 have T:Hid (a.size=k.length∧b.size=v.length):=Qh ⟨by rw[L,ak],by rw[W,ak]⟩;have q:(a.size:Int)≤1000000000000:=by have:=T.out;omega
 have r:(b.size:Int)≤1000000000000:=by have:=T.out;omega
 obtain⟨M,d⟩:∃M,iB k v=M:=⟨_,rfl⟩
 have X:=Qh d;rw[d];obtain⟨c0,c1⟩:=rA w 121 (.string a) (.string b);have B:Hid (Below w.heap.size w (w.alloc (.cells #[.string a,.string b] 121))):=Qh ((Below.refl _ _).alloc (Qk _) _);have N:=Qh hN.A2;have m:=fun w=>Any.strings_Contains_one Tryz.rN a 61 w
 have H:=fun f h=>mE k f hk h
 have I:=fun f h=>mE v f hv h
 rw[←L]at H;rw[←W]at I
 have hi:∀w,Calls Tryz.prog 157 #[.string a,.string ⟨#[61]⟩] w fun e w'=>e=.returned (.bool (k.contains 61))∧w'=w:=by
  intro w;have:=m w
  rwa [show a.data.toList=k by rw[L,aU],rM]at this
 have O:=Qh H;have U:=Qh I;have HC:=Qh hi;have he:a.toList.isEmpty=k.isEmpty:=by rw[L,av]
 rw[←L,←W];clear d hN m hi H I L W
 by_cases h1:k=[]
 ·obtain rfl:false=M:=by rw[←X.out,h1];rfl
  have c:a.toList.isEmpty=true:=by rw[he,h1];rfl
  clear h1 he hk hv
  go_enter Tryz.func155,Tryz.ntmps155
  go_wp2;go_ret;exact⟨rfl,B.out⟩
 ·have J:k.isEmpty=false:=by
   cases h:k with
   |nil=>exact absurd h h1
   |cons _ _=>rfl
  have c:a.toList.isEmpty=false:=by rw[he,J]
  cases V:k.contains 61 with
  |true=>
   obtain rfl:false=M:=by rw[←X.out];unfold iB;rw[V];rfl
   rw[V]at HC;clear h1 he hk hv J
   go_enter Tryz.func155,Tryz.ntmps155
   go_wp2_with fail
   refine(HC.out _).mono ?_;rintro e w' ⟨rfl,rfl⟩;go_wp2;go_ret;exact⟨rfl,B.out⟩
  |false=>
   rw[V]at HC
   have Y:Hid ((aZ k&&aZ v&&decide (k.length+v.length≤100000))=M):=Qh (by
    have:=X.out;simp only[iB,V,J,Bool.not_false,Bool.true_and]at this
    exact this)
   cases R:aZ k with
   |false=>
    obtain rfl:false=M:=by rw[←Y.out,R];rfl
    rw[R]at O;clear h1 he hk hv J
    go_enter Tryz.func155,Tryz.ntmps155
    go_wp2_with fail
    refine(HC.out _).mono ?_;rintro e w' ⟨rfl,rfl⟩;go_wp2_with fail;refine(O.out _ (N.out.below B.out)).mono ?_;rintro e g ⟨rfl,A⟩;have D:=Qh (B.out.trans (A.mono B.out.size));clear A;go_wp2;go_ret;exact⟨rfl,D.out⟩
   |true=>
    rw[R]at O
    cases E:aZ v with
    |false=>
     obtain rfl:false=M:=by rw[←Y.out,R,E];rfl
     rw[E]at U;clear h1 he hk hv J
     go_enter Tryz.func155,Tryz.ntmps155
     go_wp2_with fail
     refine(HC.out _).mono ?_;rintro e w' ⟨rfl,rfl⟩;go_wp2_with fail;refine(O.out _ (N.out.below B.out)).mono ?_;rintro e g ⟨rfl,A⟩;have d0:=(A.cell (p:=⟨w.heap.size,0,none⟩) (by rw[World.size_alloc];exact Nat.lt_succ_self _)).trans c0;have d1:=(A.cell (p:=⟨w.heap.size,1,none⟩) (by rw[World.size_alloc];exact Nat.lt_succ_self _)).trans c1;have D:=Qh (B.out.trans (A.mono B.out.size));clear A c0 c1;go_wp2_with fail;refine(U.out _ (N.out.below D.out)).mono ?_;rintro e w3 ⟨rfl,G⟩;have Z:=Qh (D.out.trans (G.mono D.out.size));clear G;go_wp2;go_ret;exact⟨rfl,Z.out⟩
    |true=>
     have o:decide ((a.size:Int)+(b.size:Int)≤100000)=M:=by
      rw[←Y.out,R,E,T.out.1,T.out.2];simp;omega
     rw[E]at U;clear h1 he hk hv J
     go_enter Tryz.func155,Tryz.ntmps155
     go_wp2_with fail
     refine(HC.out _).mono ?_;rintro e w' ⟨rfl,rfl⟩;go_wp2_with fail;refine(O.out _ (N.out.below B.out)).mono ?_;rintro e g ⟨rfl,A⟩;have d0:=(A.cell (p:=⟨w.heap.size,0,none⟩) (by rw[World.size_alloc];exact Nat.lt_succ_self _)).trans c0;have d1:=(A.cell (p:=⟨w.heap.size,1,none⟩) (by rw[World.size_alloc];exact Nat.lt_succ_self _)).trans c1;have D:=Qh (B.out.trans (A.mono B.out.size));clear c0 c1;go_wp2_with fail;refine(U.out _ (N.out.below D.out)).mono ?_;rintro e w3 ⟨rfl,G⟩;have l:w.heap.size<g.heap.size:=Nat.lt_of_lt_of_le (by rw[World.size_alloc];exact Nat.lt_succ_self _) A.size;have t:=(G.cell (p:=⟨w.heap.size,0,none⟩) l).trans d0;have u:=(G.cell (p:=⟨w.heap.size,1,none⟩) l).trans d1;have Z:=Qh (D.out.trans (G.mono D.out.size));clear A G d0 d1 l;go_wp2;go_ret;exact⟨rfl,Z.out⟩
end Rec
namespace Rec
open Path
theorem tu (k v:List UInt8) (w:World) (hk:k.length≤1000000000000) (hv:v.length≤1000000000000) (KR:k.length+v.length≤1000000000000) (hN:Need w):
 Calls Tryz.prog 126 #[.agg #[.string (str k),.string (str v)]] w fun e w'=>
  e=.returned (.tuple #[.string (str (if iB k v then bI k v else[])),.bool (iB k v)])∧Below w.heap.size w w':=by
 have G:=Qh (fun R h=>AO k v R hk hv h);have O:=Qh hN;obtain⟨a,L⟩:∃a,a=str k:=⟨_,rfl⟩
 obtain⟨b,M⟩:∃b,b=str v:=⟨_,rfl⟩
 obtain⟨n1,U⟩:∃n,a.size=n:=⟨_,rfl⟩
 obtain⟨n2,X⟩:∃n,b.size=n:=⟨_,rfl⟩
 have m1:k.length=n1:=by rw[←U,L,ak]
 have m2:v.length=n2:=by rw[←X,M,ak]
 have f:(⟨#[32]⟩:ByteArray)++a++⟨#[61]⟩++b++⟨#[10]⟩=str (fQ k v):=by
  rw[L,M,show(⟨#[32]⟩:ByteArray)=str [32]from rfl,show(⟨#[61]⟩:ByteArray)=str [61]from rfl,show(⟨#[10]⟩:ByteArray)=str [10]from rfl,cN.cL,cN.cL,cN.cL,cN.cL];simp[fQ]
 have s1:1+n1≤9223372036854775807:=by omega
 have s2:1+n1+1≤9223372036854775807:=by omega
 have c:1+n1+1+n2≤9223372036854775807:=by omega
 have d:1+n1+1+n2+1≤9223372036854775807:=by omega
 obtain⟨B,I⟩:∃B,B=str (fQ k v):=⟨_,rfl⟩
 obtain⟨m,hm⟩:∃m,m=(fQ k v).length:=⟨_,rfl⟩
 have g:B.size=m:=by rw[I,ak,hm]
 have V:m=n1+n2+3:=by rw[hm,gF,m1,m2]
 rw[←I]at f;obtain⟨D,J⟩:∃D,D=str (ax (fw m)):=⟨_,rfl⟩
 have W:Hid (str (bI k v)=D++B):=Qh (by rw[I,J,cN.cL,bI,hm])
 have Z:D.size+m≤9223372036854775807:=by
  have h1:=qD m (by omega);have l:=nv m;have o:=gH m 18 (by omega) (by omega);rw[J,ak];omega
 have HC:Hid (∀w,Need w→Calls Tryz.prog 156 #[.int .i64 (m:Int)] w fun e w'=>e=.returned (.string D)∧Below w.heap.size w w'):=Qh (fun w h=>by
  rw[J]
  exact AM m w (by omega) (by omega) h)
 rw[←L,←M]at G⊢;obtain⟨c0,c1⟩:=rA w 121 (.string a) (.string b);have E:Hid (Below w.heap.size w (w.alloc (.cells #[.string a,.string b] 121))):=Qh ((Below.refl _ _).alloc (Qk _) _);clear m1 m2 I hm V KR hk hv hN L M J
 cases N:iB k v with
 |true=>
  rw[N]at G;rw[if_pos rfl,W.out];clear N
  go_enter Tryz.func126,Tryz.ntmps126
  go_wp2_with fail
  refine(G.out _ (O.out.below E.out)).mono ?_;rintro e R ⟨rfl,A⟩;have d0:=(A.cell (p:=⟨w.heap.size,0,none⟩) (by rw[World.size_alloc];exact Nat.lt_succ_self _)).trans c0;have d1:=(A.cell (p:=⟨w.heap.size,1,none⟩) (by rw[World.size_alloc];exact Nat.lt_succ_self _)).trans c1;have H:=Qh (E.out.trans (A.mono E.out.size));clear A c0 c1;go_wp2_with fail;refine(HC.out _ (O.out.below H.out)).mono ?_;rintro e q ⟨rfl,T⟩;have Y:=Qh (H.out.trans (T.mono H.out.size));clear T s1 s2 c d;go_wp2;go_ret2;exact⟨rfl,Y.out⟩
 |false=>
  rw[N]at G;rw[if_neg (by simp)];clear N
  go_enter Tryz.func126,Tryz.ntmps126
  go_wp2_with fail
  refine(G.out _ (O.out.below E.out)).mono ?_;rintro e R ⟨rfl,A⟩;have H:=Qh (E.out.trans (A.mono E.out.size));clear A;go_wp2;go_ret2;exact⟨rfl,H.out⟩
theorem Dv (k v:List UInt8) (w:World) (hm:iB k v=true) (KR:k.length+v.length≤1000000000000) (hN:Need w):
 Calls Tryz.prog 126 #[.agg #[.string (str k),.string (str v)]] w fun e w'=>e=.returned (.tuple #[.string (str (bI k v)),.bool true])∧Below w.heap.size w w':=by
 have:=tu k v w (by omega) (by omega) KR hN
 rwa [hm,if_pos rfl]at this
theorem GG (k v:List UInt8) (w:World) (hm:iB k v=false) (KR:k.length+v.length≤1000000000000) (hN:Need w):
 Calls Tryz.prog 126 #[.agg #[.string (str k),.string (str v)]] w fun e w'=>e=.returned (.tuple #[.string (str []),.bool false])∧Below w.heap.size w w':=by
 have:=tu k v w (by omega) (by omega) KR hN
 rwa [hm,if_neg (by simp)]at this
theorem FY (rs:List (List UInt8 × List UInt8)) (j:Nat) (h:j<rs.length):aM (rs.take (j+1))=aM (rs.take j)++bI (rs.getD j ([],[])).1 (rs.getD j ([],[])).2:=by
 rw[List.take_add_one,Qd h,List.getD,Qd h];simp only[Option.toList,aM,List.map_append,List.flatten_append,List.map_cons,List.map_nil,List.flatten_cons,List.flatten_nil,List.append_nil,Option.getD_some]
theorem NS (rs:List (List UInt8 × List UInt8)) (j:Nat) (h:j<rs.length):rs.getD j ([],[])∈rs:=by
 rw[List.getD,Qd h];exact List.getElem_mem h
theorem P8 (rs:List (List UInt8 × List UInt8)) (j:Nat) (h:j<rs.length) (P:List UInt8 × List UInt8→Prop) (h1:∀r∈rs.take j,P r) (h2:P (rs.getD j ([],[]))):∀r∈rs.take (j+1),P r:=by
 intro r A;rw[List.take_add_one,Qd h]at A;rcases List.mem_append.1 A with h3|h3
 ·exact h1 r h3
 ·rw[List.getD,Qd h]at h2
  simp at h3;rw[h3];exact h2
theorem Lb (l:List (List UInt8 × List UInt8)) (h:∀r∈l,iB r.1 r.2=true):(aM l).length≤100010*l.length:=by
 induction l with
 |nil=>simp[aM]
 |cons r l ih=>
  have h1:=ih fun x B=>h x (List.mem_cons_of_mem _ B)
  have A:=h r (by simp);obtain⟨d,_,_,_,_,E,_,hl⟩:=pF A;have D:=(lF A).2.2.2.2;have e:aM (r::l)=bI r.1 r.2++aM l:=by simp[aM]
  rw[e,Qf,List.length_cons];omega
theorem Ps (a b:List UInt8):nums (a++b)=nums a++nums b:=by simp[nums]
theorem AY (l:List UInt8):strCells (str l)=(nums l).map (Value.int .u8):=by
 unfold strCells nums;rw[aU,List.map_map];rfl
def Rv (rs:List (List UInt8 × List UInt8)) (w:World) (e:Ending) (w':World):Prop:=
 ((∀r∈rs,iB r.1 r.2=true)→∃p c,e=.returned (.tuple #[.slice p (aM rs).length c,.bool true])∧(aM rs).length≤c∧c≤maxLen∧cK w' p (aM rs).length (aM rs)∧(∀x,p=some x→w.heap.size≤x.block))∧
   ((∃r∈rs,iB r.1 r.2=false)→e=.returned (.tuple #[.slice none 0 0,.bool false]))∧Below w.heap.size w w'
theorem OL:(Tryz.prog.info? 5).map (fun i=>(i.zero,i.size,i.bytes))=some (some (.int .u8 0),1,1):=by kernel_rfl
theorem GH (p:Option Addr) (n c:Nat) (rs:List (List UInt8 × List UInt8)) (w:World) (hm:n≤1000000000) (h:cM w p n rs) (hsz:∀r∈rs,r.1.length+r.2.length≤1000000000000) (hN:Need w):
 Calls Tryz.prog 82 #[.slice p n c] w (Rv rs w):=by
 have H:=Qh h;have O:=Qh h.1;have im:=Qh hsz;have t:=Qh hN;obtain⟨i0,hi,eo,dH,dM⟩:=info_parts OL;have HI:=Qh hi;have jr:=Qh eo;have ib:=Qh dH;have js:=Qh dM;have HM:=Qh hm;have hmi:(n:Int)≤1000000000:=by omega
 clear h hsz hN hi eo dH dM hm
 go_enter Tryz.func82,Tryz.ntmps82
 go_wp2_with fail
 go_loopw [4,11] (fun o i wr=>∃(j:Nat),j≤n∧i=.int .i64 (j:Int)∧Hid (wr.ownsRow w.heap.size 5 1 o (aM (rs.take j)).length ((nums (aM (rs.take j))).map (Value.int .u8)))∧Hid (∀r∈rs.take j,iB r.1 r.2=true)∧Hid (Below w.heap.size w wr)) (fun _ i _=>n - (RowKit.intOf i).toNat)
 case atStart=>exact⟨0,Nat.zero_le _,rfl,Qh (World.ownsRow_nil _ _ _ _),Qh (by simp),Qh (Below.refl _ _)⟩
 case round=>
  obtain⟨j,hj,rfl,aH,B,T⟩:=hrel
  by_cases I:j<n
  ·obtain⟨b1,o1,rfl,ck,gw⟩:=(H.out.below T.out).2 (by omega)
   obtain⟨x0,x1⟩:=gw j I;obtain⟨u,hu⟩:∃u,rs.getD j ([],[])=u:=⟨_,rfl⟩
   rw[hu,Nat.mul_comm]at x0 x1;have y:=Qh hu;have X2:Hid (u∈rs):=Qh (by rw[←hu];exact NS rs j (by rw[O.out];exact I));have j5:(j:Int)<(n:Int):=by omega
   have WV:=Qh (im.out u X2.out);have E:Hid (Below w.heap.size w (wr.alloc (.cells #[.string (str u.1),.string (str u.2)] 121))):=Qh (T.out.alloc T.out.size _);have HJ:=Qh I;have mO:Hid (Below wr.heap.size wr (wr.alloc (.cells #[.string (str u.1),.string (str u.2)] 121))):=Qh ((Below.refl _ _).alloc (Qk _) _);clear gw hu ck
   cases G:iB u.1 u.2 with
   |false=>
    have l:=Qh (fun N h1=>GG u.1 u.2 N G WV.out h1);have oS:Hid (∃r∈rs,iB r.1 r.2=false):=Qh ⟨u,X2.out,G⟩;clear G;go_wp2_with fail;refine(l.out _ (t.out.below E.out)).mono ?_;rintro e N ⟨rfl,A⟩;have J:=Qh (E.out.trans (A.mono E.out.size));clear A;go_wp2;go_ret2;refine⟨fun h=>?_,fun _=>rfl,J.out⟩;obtain⟨r,f,M⟩:=oS.out;rw[h r f]at M
    cases M
   |true=>
    have l:=Qh (fun N h1=>Dv u.1 u.2 N G WV.out h1);obtain⟨L,U⟩:∃L,str (bI u.1 u.2)=L:=⟨_,rfl⟩
    have HL:=Qh U;have m:Hid (L.size=(bI u.1 u.2).length):=Qh (by rw[←U,ak]);have R:Hid (∀r∈rs.take (j+1),iB r.1 r.2=true):=Qh (P8 rs j (by rw[O.out];exact I) _ B.out (by rw[y.out];exact G));have X4:Hid (aM (rs.take (j+1))=aM (rs.take j)++bI u.1 u.2):=Qh (by rw[FY rs j (by rw[O.out];exact I),y.out])
    have XM:Hid ((aM (rs.take j)).length+L.size≤140737488351232):=Qh (by
     have h1:=Lb _ R.out;rw[X4.out,Qf,Qg]at h1;have:=HM.out;have:=m.out;have:min (j+1) rs.length≤1000000000:=by omega
     omega)
    clear G;go_wp2_with fail;refine(l.out _ (t.out.below E.out)).mono ?_;rw[U];rintro e N ⟨rfl,A⟩;have J:=Qh (E.out.trans (A.mono E.out.size));have z:=Qh (cA aH.out (mO.out.trans (A.mono mO.out.size)));clear A U
    go_wp2_with (at_builtin;refine wpList_append_own_string _ rfl _ _ 26 9 rfl w.heap.size 5 i0 Tryz.underlying26 Tryz.underlying9 HI.out jr.out ib.out js.out _ _ _ rfl z.out L rfl (by have:=XM.out;unfold maxLen;omega) (by have:=XM.out;omega) J.out.size ?_)
    intro v' w2 lC aS _
    have Rj:Hid (w2.ownsRow w.heap.size 5 1 v' (aM (rs.take (j+1))).length ((nums (aM (rs.take (j+1)))).map (Value.int .u8))):=Qh (by
     rw[X4.out,Qf,←m.out,Ps,List.map_append,←AY (bI u.1 u.2),HL.out]
     exact lC)
    have Uv:Hid (Below w.heap.size w w2):=Qh (J.out.grown aS J.out.size (fun b V=>by
     rcases z.out.2 with⟨rfl,_⟩|⟨g,cap,cur,rfl,A,_⟩
     ·cases V
     ·cases V;exact A))
    clear lC aS;go_wp2_with fail;go_roundw
    case rel=>exact⟨j+1,by omega,by go_num,Rj,R,Uv⟩
    case measure=>simp[RowKit.intOf];omega
  ·have lP:¬((j:Int)<(n:Int)):=by omega
   have Y:Hid (rs.take j=rs):=Qh (List.take_of_length_le (by rw[O.out];omega));have W:=aH.out;have Z:=B.out;rw[Y.out]at W Z;obtain⟨q,cq,rfl,h1,h2,d,h4⟩:=lT W (IY _)
   have xI:∀x,q=some x→w.heap.size≤x.block:=fun x D=>by
    rcases W.2 with⟨h,_⟩|⟨g,cap,cur,h,V,_⟩
    ·simp only[Value.slice.injEq]at h
     rw[h.1]at D
     cases D
    ·simp only[Value.slice.injEq]at h
     rw[h.1]at D
     cases D
     exact V
   have Ju:=Qh xI;clear xI;rw[jA]at d;have X:=Qh (And.intro h1 (And.intro h2 d));have R:=Qh Z;clear h1 h2 d h4 W Z;go_wp2;go_ret2;refine⟨fun _=>⟨q,cq,rfl,X.out.1,X.out.2.1,X.out.2.2,Ju.out⟩,fun D=>?_,T.out⟩;obtain⟨r,f,M⟩:=D;rw[R.out r f]at M
   cases M
theorem RM {l t:List UInt8} {m:Nat} (h:qh l=some (t,m)):m≤l.length∧0<m∧t.length≤l.length:=by
 unfold qh at h;split at h
 ·cases h
 ·split at h
  ·cases h
  ·split at h
   ·cases h
   ·cases h
    refine⟨by omega,by omega,?_⟩;rw[Qg,Qe];omega
theorem Dt (p:Option Addr) (n c:Nat) (bs:List UInt8) (w:World) (h0:0<n) (hn:bs.length=n) (hc:n≤c) (hm:n≤1000000000000) (h:cK w p n bs) (hN:Need w):
 Calls Tryz.prog 140 #[.slice p n c] w fun e w'=>e=.returned (pB (qh bs))∧Below w.heap.size w w':=by
 obtain⟨b,o,rfl,hcell⟩:=h h0;exact GF b o n c bs w hn hc hm h hN
theorem mD (p0:Option Addr) (n0 c0:Nat) (bs:List UInt8) (w:World) (hn:bs.length=n0) (hc:n0≤c0) (hm:n0≤1000000000000) (h:cK w p0 n0 bs) (hN:Need w):
 Calls Tryz.prog 110 #[.slice p0 n0 c0] w (BK 5 9 bs w):=by
 have H:=Qh h;have O:=Qh hN;have HN:=Qh hn;have f:=Qh hm;have HC0:=Qh hc;obtain⟨i0,hi,eo,dH,dM⟩:=info_parts IG;have HI:=Qh hi;have jr:=Qh eo;have ib:=Qh dH;have js:=Qh dM;clear h hn hi eo dH dM hN hm hc
 go_enter Tryz.func110,Tryz.ntmps110
 go_wp2_with fail
 go_loopw [0,4] (fun b o wr=>∃(l:List UInt8) (p:Option Addr) (n c:Nat) (acc:List (List UInt8 × List UInt8)),b=.slice p n c∧n≤c∧Hid (l.length=n)∧Hid (cK w p n l)∧Hid (wr.ownsRow w.heap.size 121 2 o acc.length (eE acc))∧Hid (jc 5 9 l acc=di 5 9 bs)∧Hid (acc.length+n≤n0)∧Hid (Below w.heap.size w wr)) (fun b _ _=>match b with|.slice _ n _=>n|_=>0)
 case atStart=>exact⟨bs,p0,n0,c0,[],rfl,HC0.out,HN,H,Qh (World.ownsRow_nil _ _ _ _),Qh rfl,Qh (by simp),Qh (Below.refl _ _)⟩
 case round=>
  obtain⟨l,p,n,c,acc,rfl,y,N,Y,aH,hr,hlen,A⟩:=hrel
  by_cases XA:n=0
  ·subst XA
   have hl:l=[]:=List.length_eq_zero_iff.1 N.out;have hG:Hid (di 5 9 bs=(acc,0)):=Qh (by rw[←hr.out,hl,qU]);obtain⟨q,cq,rfl,h1,r,h3⟩:=nP aH.out;have H3:=Qh (And.intro h1 (And.intro r h3));clear hl h1 r h3;go_wp2;go_ret2;refine⟨q,cq,by rw[hG.out];rfl,?_,H3.out.2.1,?_,A.out⟩
   ·rw[hG.out];exact H3.out.1
   ·rw[hG.out];exact H3.out.2.2
  ·have vI:(0:Int)<(n:Int):=by omega
   have ac7:Hid (0<n):=Qh (by omega);have p6:Hid (l≠[]):=Qh (fun e=>by have:=N.out;rw[e]at this;exact XA (by simpa using this.symm));have hsm:(n:Int)≤1000000000000:=by have:=hlen.out;have:=f.out;omega
   have HG:Hid (∀er,eA 5 9 l=.error er→di 5 9 bs=([],er)):=Qh (fun er he=>by rw[←hr.out,lf 5 9 l p6.out,he]);have U:=Qh (fun B h1 r=>Dt p n c l B ac7.out N.out y (by omega) h1 r);have Z:=Qh (AP 5 9 l);clear XA
   cases hcut:qh l with
   |none=>
    rw[hcut]at U Z;have E:Hid (di 5 9 bs=([],5)):=Qh (HG.out 5 Z.out);clear hcut;go_wp2_with fail;refine(U.out _ (Y.out.below A.out) (O.out.below A.out)).mono ?_;unfold pB;rintro e B ⟨rfl,D⟩;have I:=Qh (A.out.trans (D.mono A.out.size));clear D;go_wp2;go_ret2;exact qV 5 9 bs w _ 5 E.out I.out
   |some x=>
    obtain⟨t,m⟩:=x;obtain⟨Zq,tN,yK⟩:=RM hcut;rw[hcut]at U Z;have z:Hid (m≤n∧0<m):=Qh (by have:=N.out;omega);have R8:(m:Int)≤(n:Int):=by have:=z.out;omega
    have ak7:(0:Int)<(m:Int):=by omega
    have ZL:t.length≤1000000000000:=by have:=N.out;omega
    have TE:=Qh ZL;have HQ:=Qh (fun B=>NC t B TE.out);have Rn:=Qh (fun B h1=>mE t B TE.out h1);clear hcut Zq tN yK ZL
    by_cases T:Lib.indexByte t 61<1
    ·have E:Hid (di 5 9 bs=([],5)):=Qh (HG.out 5 (by
      rw[Z.out];simp only
      rw[if_pos T]))
     by_cases J:0≤Lib.indexByte t 61
     ·have hz:Lib.indexByte t 61=0:=by omega
      have V:Hid (∀w,Calls Tryz.prog 141 #[.string (str t),.string ⟨#[61]⟩] w fun e w'=>e=.returned (.tuple #[.string ⟨#[]⟩,.string (str (t.drop 1)),.bool true])∧∃n,w'=w.drewN n):=Qh (fun B=>by
       have:=HQ.out B;unfold xD at this;rw[if_pos J,hz]at this
       exact this)
      clear T J hz;go_wp2_with fail;refine(U.out _ (Y.out.below A.out) (O.out.below A.out)).mono ?_;unfold pB;rintro e B ⟨rfl,D⟩;have I:=Qh (A.out.trans (D.mono A.out.size));clear D;go_wp2_with fail;refine(V.out _).mono ?_;rintro e w2 ⟨rfl,M,rfl⟩;have G:=Qh (below_drewN I.out M);go_wp2;go_ret2;exact qV 5 9 bs w _ 5 E.out G.out
     ·have V:Hid (∀w,Calls Tryz.prog 141 #[.string (str t),.string ⟨#[61]⟩] w fun e w'=>e=.returned (.tuple #[.string (str t),.string (str []),.bool false])∧∃n,w'=w.drewN n):=Qh (fun B=>by
       have:=HQ.out B;unfold xD at this;rw[if_neg J]at this
       exact this)
      clear T J;go_wp2_with fail;refine(U.out _ (Y.out.below A.out) (O.out.below A.out)).mono ?_;unfold pB;rintro e B ⟨rfl,D⟩;have I:=Qh (A.out.trans (D.mono A.out.size));clear D;go_wp2_with fail;refine(V.out _).mono ?_;rintro e w2 ⟨rfl,M,rfl⟩;have G:=Qh (below_drewN I.out M);go_wp2;go_ret2;exact qV 5 9 bs w _ 5 E.out G.out
    ·obtain⟨k,hk⟩:∃k:Nat,Lib.indexByte t 61=k:=⟨(Lib.indexByte t 61).toNat,by omega⟩
     obtain⟨kk,d⟩:∃kk,t.take k=kk:=⟨_,rfl⟩
     obtain⟨vv,L⟩:∃vv,t.drop (k+1)=vv:=⟨_,rfl⟩
     have eV:=(List.getElem?_eq_some_iff.1 (Lib.indexByte_some hk).1).1
     have am3:(str kk).toList.isEmpty=false:=by
      rw[bk,decide_eq_false_iff_not,←d];intro e;have:=congrArg List.length e;rw[Qg,List.length_nil]at this;omega
     have V:Hid (∀w,Calls Tryz.prog 141 #[.string (str t),.string ⟨#[61]⟩] w fun e w'=>e=.returned (.tuple #[.string (str kk),.string (str vv),.bool true])∧∃n,w'=w.drewN n):=Qh (fun B=>by
      have:=HQ.out B;unfold xD at this;rw[if_pos (by omega),hk,Int.toNat_natCast]at this;simp only[d,L]at this
      exact this)
     cases X:aZ t with
     |false=>
      rw[X]at Rn
      have E:Hid (di 5 9 bs=([],9)):=Qh (HG.out 9 (by
       rw[Z.out];simp only
       rw[if_neg T,if_pos X]))
      clear T hk d L X eV;go_wp2_with fail;refine(U.out _ (Y.out.below A.out) (O.out.below A.out)).mono ?_;unfold pB;rintro e B ⟨rfl,D⟩;have I:=Qh (A.out.trans (D.mono A.out.size));clear D;go_wp2_with fail;refine(V.out _).mono ?_;rintro e w2 ⟨rfl,M,rfl⟩;have G:=Qh (below_drewN I.out M);go_wp2_with fail;refine(Rn.out _ (O.out.below G.out).A2).mono ?_;rintro e w3 ⟨rfl,W⟩;have fV:=Qh (G.out.trans (W.mono G.out.size));clear W;go_wp2;go_ret2;exact qV 5 9 bs w _ 9 E.out fV.out
     |true=>
      rw[X]at Rn
      have sx:Hid (jc 5 9 (l.drop m) (acc++[(kk,vv)])=di 5 9 bs):=Qh (by
       rw[←hr.out,lf 5 9 l p6.out,Z.out];simp only;rw[if_neg T,if_neg (by rw[X];simp),hk,Int.toNat_natCast]
       simp only[d,L])
      have Jo:Hid (cK w (if c=m then p else p.map (·.add m)) (n - m) (l.drop m)):=Qh (Y.out.drop z.out.1 y N.out);have Hj:Hid ((l.drop m).length=n - m):=Qh (by rw[Qe,N.out]);clear T hk d L X eV;go_wp2_with fail;refine(U.out _ (Y.out.below A.out) (O.out.below A.out)).mono ?_;unfold pB;rintro e B ⟨rfl,D⟩;have I:=Qh (A.out.trans (D.mono A.out.size));have Tx:=Qh (cA aH.out D);clear D;go_wp2_with fail;refine(V.out _).mono ?_;rintro e w2 ⟨rfl,M,rfl⟩;have G:=Qh (below_drewN I.out M);have UI:=Qh (cA Tx.out (below_drewN (Below.refl B.heap.size B) M));go_wp2_with fail;refine(Rn.out _ (O.out.below G.out).A2).mono ?_;rintro e w3 ⟨rfl,W⟩;have fV:=Qh (G.out.trans (W.mono G.out.size));have WZ:=Qh (cA UI.out W);clear W;have Rj:Hid (World.ownsRow (w3.alloc (.cells #[.string (str kk),.string (str vv)] 121)) w.heap.size 121 2 u4 acc.length (eE acc)):=Qh (WZ.out.alloc _);have o5:Hid (Below w.heap.size w (w3.alloc (.cells #[.string (str kk),.string (str vv)] 121))):=Qh (fV.out.alloc fV.out.size _)
      have Q4:Hid (∀j u,([Value.string (str kk),.string (str vv)]:List Value)[j]? =some u→(w3.alloc (.cells #[.string (str kk),.string (str vv)] 121)).cell? ((⟨w3.heap.size,0,none⟩:Addr).add j)=some u):=Qh (fun j u R=>by
       obtain⟨g0,g1⟩:=rA w3 121 (.string (str kk)) (.string (str vv))
       match j,R with
       |0,R=>cases R;exact g0
       |1,R=>cases R;exact g1
       |j+2,R=>simp at R)
      have Ur:Hid (acc.length+1≤1000000000001):=Qh (by have:=hlen.out;have:=f.out;omega);have ad3:Hid (w.heap.size≤(w3.alloc (.cells #[.string (str kk),.string (str vv)] 121)).heap.size):=Qh o5.out.size
      go_wp2_with (at_builtin;refine wpList_append_own _ rfl _ _ 64 rfl w.heap.size 121 i0 (.agg #[.string ⟨#[]⟩,.string ⟨#[]⟩]) 2 32 Tryz.underlying64 HI.out jr.out ib.out js.out rfl (by decide) _ acc.length (eE acc) rfl Rj.out ⟨w3.heap.size,0,none⟩ 1 1 [.string (str kk),.string (str vv)] rfl rfl Q4.out (by
       intro u hu;rcases List.mem_cons.1 hu with rfl|hu
       ·rfl
       ·rcases List.mem_cons.1 hu with rfl|hu
        ·rfl
        ·(cases hu)) (by have:=Ur.out;unfold maxLen;omega) (by have:=Ur.out;omega) ad3.out ?_)
      intro v' w4 lC aS _
      have Ri:Hid (w4.ownsRow w.heap.size 121 2 v' (acc++[(kk,vv)]).length (eE (acc++[(kk,vv)]))):=Qh (by
       rw[Fi,Qf];exact lC)
      have mO:Hid (Below w.heap.size w w4):=Qh (o5.out.grown aS o5.out.size (fun b hb=>by
       rcases Rj.out.2 with⟨rfl,_⟩|⟨g,cap,cur,rfl,bY,_⟩
       ·cases hb
       ·cases hb;exact bY))
      clear lC aS;go_wp2_with fail;go_roundw
      case rel=>exact⟨l.drop m,_,n - m,c - m,acc++[(kk,vv)],rfl,by omega,Hj,Jo,Ri,sx,Qh (by have r:=hlen.out;have:=z.out;rw[Qf];simp only[List.length_cons,List.length_nil];omega),mO⟩
      case measure=>have:=z.out;simp;omega
end Rec
namespace Wr
open Bk Hp Head Rec Mem Block
variable {cs:Array Value} {b:Nat} {t:TypeId}
theorem SV {w:World} {B n:Nat} {v:Value} {bs:List UInt8} (ho:cR w B v n bs) (hb:au w b t cs) (ht:t≠5):v.ownBlock≠some b:=fun e=>by
 rcases ho.2 with⟨rfl,_⟩|⟨g,cap,cur,rfl,_,hg,_⟩
 ·cases e
 ·have A:g=b:=by simpa [Value.ownBlock]using e
  subst A;unfold au at hb;rw[hb]at hg;simp only[Option.some.injEq,Obj.cells.injEq]at hg;exact ht hg.2.1
theorem IZ (l:List UInt8):fr l=l++kO l.length:=rfl
theorem zb {w w2 w':World} {g B:Nat} {v:Value} {X xs:List UInt8} (hk:Kept ai w w2) (h:dV w2 g B v X xs e w'):dV w g B v X xs e w':=by
 obtain⟨v',he,h1,A,D⟩:=h;exact⟨v',he,h1,(hk.dY _).trans A,fun k E=>(D k E).imp id (Nat.le_trans hk.size)⟩
structure Laid (w:World) (g B:Nat) (v:Value) (wx:World) (v':Value) (Y:List UInt8):Prop where
 tx:tX wx g B v' Y
 kept:Kept (Gy g v) w wx
 new:dN w v v'
section
variable {w wx wy:World} {g B:Nat} {v v':Value} {X Y xs:List UInt8}
theorem Laid.start (h:tX w g B v X):Laid w g B v w v X:=⟨h,Kept.refl _ _,dN.refl _ _⟩
theorem Laid.after (h:Laid w g B v wx v' Y) (hk:Kept ai wx wy):Laid w g B v wy v' Y:=⟨h.tx.kept hk id (fun _ _=>id),h.kept.trans (hk.dY _),h.new⟩
theorem Laid.step (h:Laid w g B v wx v' Y) (hp:dV wx g B v' Y xs e wy):∃QZ,e=.returned (.tuple #[])∧Laid w g B v wy QZ (Y++xs)∧Kept (Gy g v') wx wy∧dN wx v' QZ:=by
 obtain⟨u,he,h1,A,D⟩:=hp;refine⟨u,he,⟨h1,h.kept.then A (fun i hi=>?_),h.new.trans D h.kept.size⟩,A,D⟩;rcases hi with hi|hi
 ·exact .inr (.inl hi)
 ·rcases h.new i hi with h4|h4
  ·exact .inr (.inr h4)
  ·exact .inl h4
theorem Laid.fi (h:Laid w g B v wx v' Y) (hk:Kept (Gy g v') wx wy) (hb:au wx b t cs) (h8:t≠5) (hS:b≠g):au wy b t cs:=
 hb.bV hk (fun e=>by
  rcases e with e|e
  ·exact hS e
  ·exact SV h.tx.own hb h8 e)
theorem Laid.post (h:Laid w g B v wx v' (X++Y)) (he:e=.returned (.tuple #[])):dV w g B v X Y e wx:=⟨v',he,h.tx,h.kept,h.new⟩
end
theorem Mg (w:World) (g B:Nat) (v:Value) (X:List UInt8) (h:tX w g B v X) (hB:B≤w.heap.size) (q1:Option Addr) (m1 c1:Nat) (x1:List UInt8)
 (h1:cK w q1 m1 x1) (l1:x1.length=m1) (o1:0<m1→∀x,q1=some x→v.ownBlock≠some x.block) (gA:X.length+m1≤140737488351232):
 Calls Tryz.prog 85 #[.pointer (some ⟨g,0,none⟩),.slice (some ⟨w.heap.size,0,none⟩) 1 1] (w.alloc (.cells #[.slice q1 m1 c1] 26)) (dV w g B v X x1):=by
 have hk:Kept ai w (w.alloc (.cells #[.slice q1 m1 c1] 26)):=(Kept.refl _ w).alloc _;have A:=uR x1;rw[←A];refine(xa _ g B v X (h.kept hk id (fun _ _=>id)) (Nat.le_trans hB hk.size) _ 1 1 (fun _=>q1) (fun _=>m1) (fun _=>c1) (fun _=>x1) ?_ (by decide) ?_ ?_ ?_).mono ?_
 ·intro _
  refine⟨w.heap.size,0,rfl,by simp,fun i hi=>?_⟩
  match i,hi with
  |0,_=>exact⟨by simp,h1.kept hk (fun _ _ _=>id),l1⟩
 ·intro _ x D
  cases D
  have E:=h.lt;refine⟨by show w.heap.size≠g;omega,fun e=>?_⟩;have:w.heap.size<w.heap.size:=(h.own.lt _ e).2;omega
 ·intro i hi
  match i,hi with
  |0,_=>exact o1
 ·rw[A,Qf,l1];omega
 ·rintro e w' h
  exact zb hk h
theorem sW (w:World) (g B:Nat) (v:Value) (X:List UInt8) (hs:tX w g B v X) (hB:B≤w.heap.size) (h:aq) (IF:∀i,(Lit.int .i64 (ia h i)).wf=true) (Bj:h.name.length≤140737488351232) (vF:h.link.length≤140737488351232)
 (bs:List UInt8) (hp:eI h=some bs) (hl:bs.length=512) (gA:X.length+512≤140737488351232):
 Calls Tryz.prog 83 #[.pointer (some ⟨g,0,none⟩),.agg (af h)] w (dV w g B v X bs):=by
 unfold af;obtain⟨W,H⟩:∃W,w.alloc (.cells #[.string (str h.name),.string (str h.link),.int .u8 (h.kind.toNat:Int),.int .i64 h.mode,.int .i64 h.uid,.int .i64 h.gid,.int .i64 h.time,.int .i64 h.size,.bool h.fL] 66)=W:=⟨_,rfl⟩
 have U:Kept ai w W:=by rw[←H];exact(Kept.refl _ w).alloc _
 have G:=PE h IF Bj vF W;rw[hp]at G;have b:=Qh H;have J:=Qh U;have Z:=Qh G;have M:=Qh hs;have L:=Qh hl;clear H U G hs hl hp
 go_enter Tryz.func83,Tryz.ntmps83
 go_wp2_with fail
 rw[show w.alloc (.cells #[.string (str h.name),.string (str h.link),.int .u8 (h.kind.toNat:Int),.int .i64 h.mode,.int .i64 h.uid,.int .i64 h.gid,.int .i64 h.time,.int .i64 h.size,.bool h.fL] 66)=W from b.out];refine Z.out.mono ?_;rintro e f ⟨O,(⟨bs',R,A,rfl,N,V⟩|⟨A,_⟩)⟩
 case inr=>cases A
 obtain rfl:bs=bs':=Option.some.inj A;have I:=N.gC;rw[L.out]at I;have D:=Qh (J.out.trans O)
 have c:=Qh (Mg f g B v X (M.out.kept D.out id (fun _ _=>id)) (Nat.le_trans hB D.out.size) (some ⟨R,0,none⟩) 512 512 bs I L.out (fun _ x d e=>by
  cases d
  have h1:=(M.out.own.lt _ e).2;have l:R<w.heap.size:=h1;have E:=J.out.size
  omega) (by omega))
 clear A O N V I;go_wp2_with fail;refine c.out.mono ?_;rintro e w3 E;obtain⟨v3,rfl,T⟩:=zb D.out E;have Y:=Qh T;clear E T;go_wp2
 go_end0
 exact⟨v3,rfl,Y.out⟩
end Wr
namespace Wr
open Bk Hp Head Rec Attr Mem Block
theorem Dy {m:aw} (h:dz m):(aT m).length≤5∧∀r∈aT m,r.1.length+r.2.length≤1000000000000:=by
 refine⟨?_,fun r A=>by have:=(lF (iH h r A)).2.2.2.2;omega⟩;have d:∀(c:Prop) [Decidable c] (k v:List UInt8),(if c then[(k,v)]else[]).length≤1:=fun c _ k v=>by split<;>simp
 simp only[aT,Qf];have d1:=d (ik m=true) (aB 4) m.path;have d2:=d (gP m=true) (aB 5) m.target;have d3:=d (2097151<m.uid) (aB 0) (ax m.uid.toNat);have d4:=d (2097151<m.gid) (aB 1) (ax m.gid.toNat);have d5:=d (8589934591<m.time) (aB 2) (ax m.time.toNat);omega
structure LI (w:World) (g B:Nat) (v:Value) (M:Array Value) (hb:Nat) (h:aq) (p:Option Addr) (bs:List UInt8) (wx:World) (v':Value) (Y:List UInt8):Prop where
 laid:Laid w g B v wx v' Y
 mem:au wx w.heap.size 48 M
 hd:au wx hb 66 (af h)
 body:cK wx p bs.length bs
 off:0<bs.length→∀x,p=some x→v'.ownBlock≠some x.block
section
variable {w wx wy:World} {g B hb:Nat} {v v':Value} {M:Array Value} {h:aq} {p:Option Addr} {bs Y xs:List UInt8}
theorem LI.after (i:LI w g B v M hb h p bs wx v' Y) (hk:Kept ai wx wy):LI w g B v M hb h p bs wy v' Y:=
 ⟨i.laid.after hk,i.mem.bV hk id,i.hd.bV hk id,i.body.kept hk (fun _ _ _=>id),i.off⟩
theorem LI.step (i:LI w g B v M hb h p bs wx v' Y) (hg:g<w.heap.size) (hhb:w.heap.size≤hb) (hp:0<bs.length→∀x,p=some x→x.block<w.heap.size∧v.ownBlock≠some x.block) (q:dV wx g B v' Y xs e wy):
 ∃QZ,e=.returned (.tuple #[])∧LI w g B v M hb h p bs wy QZ (Y++xs)∧Kept (Gy g v') wx wy∧dN wx v' QZ:=by
 obtain⟨QZ,he,l,k,E⟩:=i.laid.step q;refine⟨QZ,he,⟨l,i.laid.fi k i.mem (by decide) (by omega),i.laid.fi k i.hd (by decide) (by omega),i.body.kept k (fun A x D e=>?_),fun A x D e=>?_⟩,k,E⟩
 ·rcases e with e|e
  ·exact px i.body i.laid.tx A x D e
  ·exact i.off A x D e
 ·rcases l.new _ e with e|e
  ·exact(hp A x D).2 e
  ·have:=(hp A x D).1
   omega
end
def UY (w:World) (g B:Nat) (v:Value) (X H:List UInt8) (M:Array Value) (hb:Nat) (m:aw) (p:Option Addr) (wx:World):Prop:=
 ∃v' Y,LI w g B v M hb (bF m) p m.body wx v' (X++Y)∧fu m=Y++(H++fr m.body)∧Y.length≤1100000
theorem Ar (w:World) (g B:Nat) (v:Value) (X:List UInt8) (hs:tX w g B v X) (hB:B≤w.heap.size) (m:aw) (p:Option Addr) (c:Nat) (hg:dz m) (hb:cK w p m.body.length m.body)
 (gz:0<m.body.length→∀x,p=some x→v.ownBlock≠some x.block) (gA:X.length+4000000≤140737488351232) (hN:Need w):
 Calls Tryz.prog 53 #[.pointer (some ⟨g,0,none⟩),.agg (dj m p c)] w (dV w g B v X (fu m)):=by
 obtain⟨H,hpH,y,Iu⟩:=LS hg;obtain⟨Bo,hrz⟩:=Dy hg;have Zo:=jT hg;have Xs:=hg.body;have Y9:=hs.lt
 have Zz:0<m.body.length→∀x,p=some x→x.block<w.heap.size∧v.ownBlock≠some x.block:=fun R x I=>⟨by
  obtain⟨b,o,he,kX,_⟩:=hb.cell R;rw[I]at he
  cases he
  exact kX,gz R x I⟩
 obtain⟨bl,iN⟩:∃bl,m.body.length=bl:=⟨_,rfl⟩
 obtain⟨n,hn⟩:∃n,(aT m).length=n:=⟨_,rfl⟩
 obtain⟨W0,vw⟩:∃W0,w.alloc (.cells (dj m p c) 48)=W0:=⟨_,rfl⟩
 have E:Kept ai w W0:=by rw[←vw];exact(Kept.refl _ w).alloc _
 have u:au W0 w.heap.size 48 (dj m p c):=by rw[←vw];exact au.new w _ _
 have YJ:=Mf m p c W0 hg (hN.below (E.below (Qk _) (fun _ h=>h.elim)));have t:Laid w g B v W0 v X:=(Laid.start hs).after E;have J:=Qh (And.intro hpH y);have XO:=Qh Iu;have Be:=Qh (And.intro Bo hrz);have D:=Qh Zo;have Rk:=Qh Zz;have Q8:=Qh Y9;have lj:=Qh E;have jz:=Qh u;have UU:=Qh YJ;have W:=Qh t;have HN:=Qh hN;have HG:=Qh hg;have ac1:=Qh hb;have il:=Qh gz;have Rq:=Qh vw;have Z:=Qh iN;have Rh:=Qh hn;have dC:=Qh hB;have WM:=Qh Xs;unfold dj at UU Rq⊢;rw[iN]at UU Rq⊢;clear hpH y Iu Bo hrz Zo Zz Y9 E u YJ t hN hg hb gz vw iN hn hB Xs hs
 go_enter Tryz.func53,Tryz.ntmps53
 go_wp2_with fail
 rw[Rq.out];refine UU.out.mono ?_;rintro e G ⟨q,d,rfl,h1,h2,h3,r⟩;rw[Rh.out]at h1 h3⊢;unfold af;have HR:=Qh (And.intro h1 (And.intro h2 h3));have cr:=Qh r;clear h1 h2 h3 r;go_upto_if 15 with fail;obtain⟨w2,Bp⟩:∃w2,G.alloc (.cells #[.string (str (bF m).name),.string (str (bF m).link),.int .u8 ((bF m).kind.toNat:Int),.int .i64 (bF m).mode,.int .i64 (bF m).uid,.int .i64 (bF m).gid,.int .i64 (bF m).time,.int .i64 (bF m).size,.bool (bF m).fL] 66)=w2:=⟨_,rfl⟩
 have O:Kept ai G w2:=by rw[←Bp];exact(Kept.refl _ G).alloc _
 have D3:au w2 G.heap.size 66 (af (bF m)):=by rw[←Bp];exact au.new G _ _
 have f:=Kept.aO cr.out ai;have im:Hid (w.heap.size≤G.heap.size):=Qh (Nat.le_trans lj.out.size cr.out.size);have bT:Hid (Below w.heap.size w w2):=Qh ((lj.out.trans (f.trans O)).below (Qk _) (fun _ h=>h.elim));have Ra:Hid (LI w g B v (dj m p c) G.heap.size (bF m) p m.body w2 v X):=Qh ⟨(W.out.after f).after O,(jz.out.bV f id).bV O id,D3,ac1.out.kept (lj.out.trans (f.trans O)) (fun _ _ _=>id),il.out⟩;have rq:Hid (cM w2 q n (aT m)):=Qh (HR.out.2.2.below (O.below (Qk _) (fun _ h=>h.elim)));have HN2:=Qh (HN.out.below bT.out);rw[Bp];clear Bp O D3 f
 go_cut [6] (fun _ wx=>UY w g B v X H (dj m p c) G.heap.size m p wx)
 case first=>
  rcases XO.out with⟨hr,he⟩|⟨hr,Xh,x1,x2,he⟩
  ·have hz:¬(0:Int)<(n:Int):=by have:=Rh.out;rw[hr]at this;simp at this;omega
   have U:=Qh he;clear hr he;go_wp2;go_meet;exact⟨v,[],by rw[List.append_nil];exact Ra.out,by rw[List.nil_append];exact U.out,by simp⟩
  ·have hz:(0:Int)<(n:Int):=by
    have:=List.length_pos_iff.2 hr;rw[Rh.out]at this;omega
   have U:=Qh he;have oU:=Qh (And.intro x1 x2);clear hr he x1 x2;go_wp2_with fail;refine(GH q n d (aT m) w2 (by have:=Be.out.1;rw[Rh.out]at this;omega) rq.out Be.out.2 HN2.out).mono ?_;rintro e w3 ⟨hy,_,eN⟩;obtain⟨p3,c3,rfl,l,h32,M,KF⟩:=hy (iH HG.out);obtain⟨L,hL⟩:∃L,(aM (aT m)).length=L:=⟨_,rfl⟩
   have zF:=Qh hL;rw[hL]at l M oU D⊢;have ku:=Qh (And.intro M KF);have ye:=Qh (Ra.out.after (Kept.aO eN ai));have Xd:Hid (w2.heap.size≤w3.heap.size):=Qh eN.size;have fV:=Qh (bT.out.trans (eN.mono bT.out.size))
   have hH:Calls Tryz.prog 83 #[.pointer (some ⟨g,0,none⟩),.agg #[.string ⟨#[64,112,97,120]⟩,.string ⟨#[]⟩,.int .u8 120,.int .i64 0,.int .i64 0,.int .i64 0,.int .i64 0,.int .i64 (L:Int),.bool false]] w3 (dV w3 g B v X Xh):=
    sW w3 g B v X ye.out.laid.tx (Nat.le_trans dC.out fV.out.size) (tS L) (I1 D.out) (by show(4:Nat)≤_;decide) (by show(0:Nat)≤_;decide) Xh oU.out.1 oU.out.2 (by omega)
   have HH:=Qh hH;clear hy eN hL l h32 M KF hH;go_wp2_with fail;refine HH.out.mono ?_;rintro e w4 r;obtain⟨v4,rfl,i4,k4,n4⟩:=ye.out.step Q8.out im.out Rk.out r
   have gY:cK w4 p3 L (aM (aT m)):=ku.out.1.kept k4 (fun R x I e=>by
    rcases e with e|e
    ·exact px ku.out.1 ye.out.laid.tx R x I e
    ·have a1:=(W.out.tx.own.lt _ e).2
     have a2:=ku.out.2 x I;have a3:=lj.out.size;have a4:=bT.out.size;have a5:=cr.out.size;have a6:=(Ra.out.laid.tx.own.lt _ e).2
     omega)
   have z:0<L→∀x,p3=some x→v4.ownBlock≠some x.block:=fun R x I e=>by
    have a2:=ku.out.2 x I;obtain⟨b,o,he,kX,_⟩:=ku.out.1.cell R;rw[I]at he
    cases he
    rcases n4 _ e with e|e
    ·have a6:=(Ra.out.laid.tx.own.lt _ e).2
     change w2.heap.size≤b at a2;change b<w2.heap.size at a6;omega
    ·change w3.heap.size≤b at e
     omega
   have mN:=Qh gY;have HO4:=Qh z;have Hi:=Qh i4;have UT:Hid (w3.heap.size≤w4.heap.size):=Qh k4.size;clear r i4 k4 n4 gY z;go_wp2_with fail;refine(zn w4 g B v4 (X++Xh) Hi.out.laid.tx (by have:=dC.out;have:=fV.out.size;have:=UT.out;omega) p3 L c3 (aM (aT m)) mN.out zF.out HO4.out (by rw[Qf,oU.out.2];have:=uv L;have:=D.out;omega)).mono ?_;rintro e w5 h5;obtain⟨v5,rfl,i5,_,_⟩:=Hi.out.step Q8.out im.out Rk.out h5
   have rp:Hid (LI w g B v (dj m p c) G.heap.size (bF m) p m.body w5 v5 (X++(Xh++fr (aM (aT m))))):=Qh (by
    rw[IZ,zF.out,←List.append_assoc]
    exact i5)
   clear h5 i5;go_wp2;go_meet;refine⟨v5,_,rp.out,by rw[U.out],?_⟩;rw[Qf,bu,oU.out.2,zF.out];have:=(fG L).2;have:=D.out;omega
 case rest=>
  obtain⟨v6,Y,i6,he,hy⟩:=hcut;have A:=i6.hd;have z0:=A.cell 0;have z1:=A.cell 1;have z2:=A.cell 2;have z3:=A.cell 3;have z4:=A.cell 4;have z5:=A.cell 5;have z6:=A.cell 6;have z7:=A.cell 7;have z8:=A.cell 8;simp only[af,Qc,Qa,Qb]at z0 z1 z2 z3 z4 z5 z6 z7 z8;have HI6:=Qh i6;have U:=Qh he;have UX:=Qh hy;have T:Hid (B≤wc.heap.size):=Qh (Nat.le_trans dC.out i6.laid.kept.size);have hH:=sW wc g B v6 (X++Y) i6.laid.tx T.out (bF m) (Ck HG.out) (vz HG.out).1 (vz HG.out).2 H J.out.1 J.out.2 (by rw[Qf];omega);unfold af at hH;have HH:=Qh hH;clear A i6 he hy hH;go_wp2_with fail;refine HH.out.mono ?_;rintro e w7 h7;obtain⟨v7,rfl,i7,k7,_⟩:=HI6.out.step Q8.out im.out Rk.out h7;have y7:=i7.mem.cell 7;simp only[dj,Qc,Qa,Qb]at y7;rw[Z.out]at y7;have o8:=i7.body;have N:=i7.off;rw[Z.out]at o8 N;have Qz:=Qh o8;have HOF:=Qh N;have V:=Qh i7;have HS7:Hid (wc.heap.size≤w7.heap.size):=Qh k7.size;clear h7 i7 k7 z0 z1 z2 z3 z4 z5 z6 z7 z8 o8 N;go_wp2_with fail;refine(zn w7 g B v7 (X++Y++H) V.out.laid.tx (Nat.le_trans T.out HS7.out) p bl c m.body Qz.out Z.out HOF.out (by rw[Qf,Qf,J.out.2];have:=uv bl;have:=WM.out;have:=Z.out;have:=UX.out;omega)).mono ?_;rintro e w8 h8;obtain⟨v8,rfl,i8,_,_⟩:=V.out.step Q8.out im.out Rk.out h8
  have HF:Hid (Laid w g B v w8 v8 (X++fu m)):=Qh (by
   have:=i8.laid;rw[U.out,IZ,Z.out];rw[show X++(Y++(H++(m.body++kO bl)))=X++Y++H++(m.body++kO bl) by simp only[List.append_assoc]]
   exact this)
  clear h8 i8 y7;go_wp2
  go_end0
  exact⟨v8,rfl,HF.out.tx,HF.out.kept,HF.out.new⟩
end Wr
end Go.Proofs.YtdhibldkldlfpaaGreatDoor
