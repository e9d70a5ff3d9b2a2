/- Merged. -/
import Derived.Test.YtdhibldkldlfpaaGreatDoorEmitOnceX11
import Derived.Deep.RegionHeldLaw
import Derived.Laws.AppendOwnNone
import Derived.Test.YtdhibldkldlfpaaGreatDoorEmitOnceX21
import Derived.Test.YtdhibldkldlfpaaGreatDoorEmitOnceX20
namespace Go.Proofs.YtdhibldkldlfpaaGreatDoor
set_option linter.unusedVariables false
set_option maxHeartbeats 4000000
set_option maxRecDepth 100000
open Go.ChangeShapes Go.WideShapes Go.ChangeAt Go.RowKit Base bJ cr Go.Lib
variable {B g j:Nat} {v:Value} {w:World}
namespace Rec
open Path
variable {rs:List (List UInt8 × List UInt8)}
def cY (rs:List (List UInt8 × List UInt8)):List Value:=rs.flatMap fun r=>[.string (str r.1),.string (str r.2)]
theorem nR (rs:List (List UInt8 × List UInt8)):(cY rs).length=2*rs.length:=by
 induction rs with
 |nil=>rfl
 |cons r rs ih=>simp only[cY,List.flatMap_cons,Qf,List.length_cons,List.length_nil]at ih⊢;omega
theorem Bd (rs:List (List UInt8 × List UInt8)) (k v:List UInt8):cY (rs++[(k,v)])=cY rs++[.string (str k),.string (str v)]:=by simp[cY]
theorem uH (rs:List (List UInt8 × List UInt8)):∀i,i<rs.length→(cY rs)[2*i]? =some (.string (str (rs.getD i ([],[])).1))∧(cY rs)[2*i+1]? =some (.string (str (rs.getD i ([],[])).2)):=by
 induction rs with
 |nil=>intro i h;simp at h
 |cons r rs ih=>
  intro i h
  cases i with
  |zero=>exact⟨rfl,rfl⟩
  |succ i=>
   have:=ih i (by simpa using h);have e:cY (r::rs)=.string (str r.1)::.string (str r.2)::cY rs:=rfl;rw[e,show 2*(i+1)=2*i+1+1 by omega]
   simpa using this
def bN (w:World) (p:Option Addr) (n:Nat) (rs:List (List UInt8 × List UInt8)):Prop:=
 rs.length=n∧(0<n→∃b o,p=some ⟨b,o,none⟩∧b<w.heap.size∧∀i,i<n→w.cell? ⟨b,o+2*i,none⟩=some (.string (str (rs.getD i ([],[])).1))∧w.cell? ⟨b,o+2*i+1,none⟩=some (.string (str (rs.getD i ([],[])).2)))
theorem bN.below {w':World} {p:Option Addr} {n:Nat} (h:bN w p n rs) (hb:Below w.heap.size w w'):bN w' p n rs:=by
 refine⟨h.1,fun B=>?_⟩;obtain⟨b,o,rfl,A,hc⟩:=h.2 B;refine⟨b,o,rfl,Nat.lt_of_lt_of_le A hb.size,fun i hi=>⟨?_,?_⟩⟩
 ·rw[hb.cell (p:=⟨b,o+2*i,none⟩) A];exact(hc i hi).1
 ·rw[hb.cell (p:=⟨b,o+2*i+1,none⟩) A];exact(hc i hi).2
theorem lN {base:Nat} {e:TypeId} (h:w.ownsRow base e 2 v rs.length (cY rs)):∃p c,v=.slice p rs.length c∧rs.length≤c∧c≤maxLen∧bN w p rs.length rs:=by
 rcases h.2 with⟨rfl,A⟩|⟨g,cap,cur,rfl,hb,hg,hn,hc,hs,ht⟩
 ·exact⟨none,0,by rw[A],by omega,by decide,rfl,fun h=>by omega⟩
 ·refine⟨some ⟨g,0,none⟩,cap,rfl,hn,hc,rfl,fun A=>⟨g,0,rfl,(Array.getElem?_eq_some_iff.1 hg).1,fun i hi=>?_⟩⟩
  have get:∀j,j<2*rs.length→w.cell? ⟨g,j,none⟩=(cY rs)[j]? :=fun j B=>by
   unfold World.cell?;rw[hg,←ht,List.getElem?_take,if_pos (by omega)];simp
  obtain⟨g1,g2⟩:=uH rs i hi;rw[Nat.zero_add];exact⟨by rw[get _ (by omega)];exact g1,by rw[get _ (by omega)];exact g2⟩
theorem DG:(Tryz.prog.info? 121).map (fun i=>(i.zero,i.size,i.bytes))=some (some (.agg #[.string ⟨#[]⟩,.string ⟨#[]⟩]),2,32):=by kernel_rfl
theorem Dj (l:List UInt8):∀k,k≤l.length→(∀j,j<k→aW (l.getD j 0)=true)→(k=l.length∨aW (l.getD k 0)=false)→fJ l=k:=by
 unfold fJ
 induction l with
 |nil=>intro k h _ _;simp at h;simp[h]
 |cons b l ih=>
  intro k hk hd he
  cases k with
  |zero=>
   rcases he with h|h
   ·simp at h
   ·rw[List.takeWhile_cons,show aW b=false from h];rfl
  |succ k=>
   have A:aW b=true:=hd 0 (by omega);rw[List.takeWhile_cons,A,if_pos rfl,List.length_cons,ih k (by simpa using hk) (fun j B=>by simpa using hd (j+1) (by omega)) (by simpa using he)]
theorem PA (l:List UInt8):∀b∈l.takeWhile aW,aW b=true:=by
 induction l with
 |nil=>simp
 |cons c l ih=>
  intro b A;rw[List.takeWhile_cons]at A;split at A
  ·next h=>
   rcases List.mem_cons.1 A with rfl|h1
   ·exact h
   ·exact ih b h1
  ·cases A
theorem Fg (l:List UInt8):fJ l≤l.length∧∀b∈l.take (fJ l),aW b=true:=by
 unfold fJ;have B:l.takeWhile aW<+:l:=List.takeWhile_prefix _;refine⟨B.length_le,fun b A=>?_⟩;rw[←List.prefix_iff_eq_take.1 B]at A;exact PA l b A
end Rec
namespace Rec
theorem Fx (a b:List (List UInt8 × List UInt8)):cY (a++b)=cY a++cY b:=by simp[cY]
theorem Fy (rs:List (List UInt8 × List UInt8)):∀u∈cY rs,u.oneCell'=true:=by
 intro u hu;obtain⟨r,_,hr⟩:=List.mem_flatMap.1 hu;rcases List.mem_cons.1 hr with rfl|hr
 ·rfl
 ·rcases List.mem_cons.1 hr with rfl|hr
  ·rfl
  ·cases hr
theorem ya {P:Program} {ops:Array Oper} {rest:List Oper} {o:Oper} {a:Act} {Q:Exit→Act→World→Prop} (tJ:o.guard=none) (s x:Operand) (t:TypeId)
 (ho:o.op=.call {callee:=.builtin .append,args:=#[s,x],argTypes:=#[t,t]})
 (base:Nat) (e:TypeId) (i:TypeInfo) (z:Value) (ht:P.underlying t=some (.slice e)) (hi:P.info? e=some i) (hz:i.zero=some z) (eo:i.size=2) (wK:i.bytes=32) (Ps:z.cells.size=2)
 (v:Value) (n:Nat) (xs:List (List UInt8 × List UInt8)) (hs:a.eval s=v) (ba:w.ownsRow base e 2 v n (cY xs))
 (p:Option Addr) (m c:Nat) (rs:List (List UInt8 × List UInt8)) (hx:a.eval x=.slice p m c) (hb:bN w p m rs) (lr:(n+m)*32≤140737488355328) (eR:base≤w.heap.size)
 (h:∀v' w',w'.ownsRow base e 2 v' (n+m) (cY (xs++rs))→w.grownBy w' v.ownBlock→wpList P ops Q rest (a.put o.dst v') w'):wpList P ops Q (o::rest) a w:=by
 have hl:=hb.1;rcases p with _|ad
 ·have hm:m=0:=by
   rcases Nat.eq_zero_or_pos m with h0|h0
   ·exact h0
   ·obtain⟨_,_,he,_⟩:=hb.2 h0
    cases he
  subst hm;obtain rfl:rs=[]:=List.eq_nil_of_length_eq_zero hl
  have B:(Builtin.append_ #[t,t] o.type #[v,.slice none 0 c]).run P w=.ok v w:=by
   rcases ba.2 with⟨rfl,rfl⟩|⟨g,cap,cur,rfl,_,_,FL,_⟩
   ·simp[Builtin.append_,run_underlying ht,sizeOf,typeInfo,hi,Builtin.lenOf,Builtin.firstCells]
   ·simp[Builtin.append_,run_underlying ht,sizeOf,typeInfo,hi,Builtin.lenOf,Builtin.firstCells,FL,storeCells]
  refine wpList_plain tJ fun K E=>?_
  unfold Oper.wp;simp[execOp,ho,resolve,invoke,builtin,hs,hx,B,Result.andThen];exact E _ _ (h v w (by simpa using ba) (World.grownBy.refl w _))
 ·refine wpList_append_own w tJ s x t ho base e i z 2 32 ht hi hz eo wK Ps (by decide) v n (cY xs) hs ba ad m c (cY rs) hx (by rw[nR,hl];omega) ?_ (Fy rs) (by unfold maxLen;omega) lr eR ?_
  ·intro j u A
   have G:j<2*m:=by
    have:=(List.getElem?_eq_some_iff.1 A).1;rw[nR,hl]at this;exact this
   obtain⟨b,off,he,_,hc⟩:=hb.2 (by omega)
   cases he
   obtain⟨c0,c1⟩:=hc (j / 2) (by omega);obtain⟨g0,g1⟩:=uH rs (j / 2) (by omega);rw[WideShapes.add_plain];rcases Nat.mod_two_eq_zero_or_one j with LV|LV
   ·have e:j=2*(j / 2):=by omega
    rw[e]at A;rw[g0]at A
    cases A
    rw[show off+j=off+2*(j / 2) by omega];exact c0
   ·have e:j=2*(j / 2)+1:=by omega
    rw[e]at A;rw[g1]at A
    cases A
    rw[show off+j=off+2*(j / 2)+1 by omega];exact c1
  ·intro v' w' h1 D _
   rw[←Fx]at h1;exact h v' w' h1 D
end Rec
namespace Head
open Hp Go.Proofs.YtdhibldkldlfpaaGreatDoor.Mp
variable {R:Nat} {todo:Nat→Bool} {a b:Nat→List UInt8} {f:Nat→Option Value}
theorem iK {bs:List UInt8} (h:fC w B R f todo) (hr:dS w g bs):g≠B∧g≠R:=by
 obtain⟨es,clock,since,seen,c0,D,hs,h1,E,A,_⟩:=h;unfold dS at hr;refine⟨fun e=>?_,fun e=>?_⟩
 ·rw[e,D]at hr;cases hr
 ·rw[e,A]at hr;cases hr
theorem DH (h:fC w B R f todo) (e:B=R):False:=by
 obtain⟨es,clock,since,seen,c0,D,hs,h1,E,A,_⟩:=h;rw[←e,D]at A
 cases A
def iR (todo:Nat→Bool) (a b:Nat→List UInt8):Nat→List UInt8:=fun i=>if todo i=true then a i else b i
theorem zb (ha:Fits a) (hb:Fits b):Fits (iR todo a b):=fun i=>by
 unfold iR;split
 ·exact ha i
 ·exact hb i
theorem za (ha:Fits a) (hb:Fits b) (h:∀i,i<11→todo i=false):iR todo a b=b:=
 yw (zb ha hb) hb fun i hi=>by unfold iR;rw[if_neg (by simp[h i hi])]
theorem sI (j:Nat):Aa (iR todo a b) j (b j)=iR (fun z=>todo z&&z != j) a b:=by
 funext i
 by_cases hi:i=j
 ·subst hi
  rw[lT,iR,if_neg (by simp)]
 ·rw[iy _ _ hi,iR,iR]
  have:(i != j)=true:=by simpa using hi
  simp[this]
theorem vq (r:Nat→Nat):∀j v,gV r j=some v→v=cA r j:=fun j v h=>by
 unfold gV at h;split at h
 ·exact(Option.some.inj h).symm
 ·cases h
theorem zl {r:Nat→Nat} (h:gV r j=some v):j<11:=by
 unfold gV at h;split at h
 ·assumption
 ·cases h
theorem BH:(Tryz.prog.info? 5).map (·.size)=some 1:=by kernel_rfl
theorem jq {old cs:List UInt8} (h:cs.length=old.length):eH old cs=cs:=by
 simp[eH,List.drop_eq_nil_of_le (show old.length≤cs.length by omega)]
theorem fU (lo B:Nat) (r:Nat→Nat) (own:Nat→List UInt8) (i:Nat) (s:ByteArray) (w:World) (hi:i<11) (hP:aT w lo B r own):
 Calls Tryz.prog 159 #[.map (some B),.int .i64 (i:Int),.string s] w fun e w'=>e=.returned (.tuple #[])∧aT w' lo B r (Aa own i (eH (own i) (s.data.toList.take (aj i))))∧Kept (aw (r i)) w w'∧w'.heap.size=w.heap.size:=by
 have H:=fK
 have I:(Instr.lookup 166 (.map (some B)) (.int .i64 (i:Int)) false).run Tryz.prog w=.ok (.agg #[.int .i64 (eZ i),.slice (some ⟨r i,0,none⟩) (aj i) (aj i)]) w:=
  hP.map.look (P:=Tryz.prog) Tryz.underlying166 Tryz.underlying170 (x:=i) (v:=cA r i) (by unfold gV;rw[if_pos hi])
 have A:=hP.fit i;have D:=Qh hP;obtain⟨cs,hcs⟩:∃cs,cs=s.data.toList.take (aj i):=⟨_,rfl⟩
 have E:cs.length≤aj i:=by rw[hcs,Qg];omega
 have HC:=Qh hcs;rw[←hcs];clear hP hcs
 go_enter Tryz.func159,Tryz.ntmps159
 go_wp2_with (first|(refine xI rfl _ _ 26 9 rfl 5 Tryz.underlying26 BH (some ⟨r i,0,none⟩) (aj i) (aj i) s rfl rfl (r i) 0 (own i) (D.out.row i hi) cs HC.out (fun _=>rfl) (by rw[Nat.zero_add,A];exact E) ?_;intro J G hk hs)|go_in)
 refine bodyPost_end (results_none rfl _ _ _) rfl ?_;refine⟨rfl,D.out.wrote hi hk (by rw[sW (by rw[A];exact E)];exact A) ?_,hk,hs⟩;rw[←lQ];exact G.out
theorem Kc (p:Option Addr) (c:Nat) (bs:List UInt8) (w:World) (hn:bs.length=512) (hc:512≤c) (hm:c≤maxLen) (h:cj w p 512 bs):
 Calls Tryz.prog 101 #[.slice p 512 c] w fun e w'=>∃B r,e=.returned (.map (some B))∧aT w' w.heap.size B r (cH bs)∧Kept af w w':=by
 unfold maxLen at hm;obtain⟨b,o,rfl,jH,_⟩:=h.cell (k:=0) (by omega);have H:=Qh h;have U:=Qh hn;clear h hn
 go_enter Tryz.func101,Tryz.ntmps101
 go_wp2_with fail
 refine(uB w).mono ?_;rintro e w1 ⟨B,r,rfl,A,hk⟩;have y:=Qh A;have u:=Qh hk;clear A hk;obtain⟨R,d⟩:∃R,R=w1.heap.size:=⟨_,rfl⟩
 go_wp2_with (first|(at_range;refine gu rfl _ rfl Tryz.underlying166 B y.out.map (fun _=>true) (fun _ _ _=>rfl) rfl R d ?_;intro w2 HI X uS)|go_in)
 have vV:=Qh (y.out.cz X.out);have gJ:=Qh (u.out.trans X.out);have xK:Hid (w.heap.size≤R):=Qh (by rw[d];exact u.out.size);clear X uS d
 try go_frame
 go_loopw [9] (fun _ wr=>∃todo,Hid (fC wr B R (gV r) todo)∧Hid (aT wr w.heap.size B r (iR todo eW (cH bs)))∧Hid (Kept af w wr)) (fun _ wr=>wr.rangeLeft B R)
 case atStart=>exact⟨fun _=>true,HI,by
  have e:iR (fun _=>true) eW (cH bs)=eW:=by funext i;exact if_pos rfl
  rw[e];exact vV,gJ⟩
 case round=>
  obtain⟨todo,N,A,hK⟩:=hrel
  go_wp2_with (at_next;refine ik rfl _ rfl B R todo (cA r) (vq r) rfl N.out ?_ ?_)
  ·intro hd
   have D:∀i,i<11→todo i=false:=fun i hi=>hd i (cA r i) (by unfold gV;rw[if_pos hi])
   have HD:=Qh (za (todo:=todo) kG (Cp U.out) D);clear hd D;go_wp2;go_ret;refine⟨B,r,rfl,?_,hK.out⟩;rw[←HD.out];exact A.out
  ·intro j w3 v E L6 C2 Ha qO tW LU
   have E:=zl E;have OZ:(Instr.entry (.pointer (some ⟨R,0,none⟩))).run Tryz.prog w3=.ok (.tuple #[.int .i64 (j:Int),.agg #[.int .i64 (eZ j),.slice (some ⟨r j,0,none⟩) (aj j) (aj j)]]) w3:=LU;have hw:=j4 E;have jR:=kZ E;have G:=Qh E;clear LU;go_wp2_with fail;obtain⟨w4,O⟩:∃w4,w4=w3.alloc (.cells #[.int .i64 (eZ j),.slice (some ⟨r j,0,none⟩) (aj j) (aj j)] 169):=⟨_,rfl⟩
   have f:Kept af w3 w4:=by rw[O];exact(Kept.refl _ _).alloc _
   have L:w4.heap[wr.heap.size]? =some (.cells #[.int .i64 (eZ j),.slice (some ⟨r j,0,none⟩) (aj j) (aj j)] 169 (0,0)):=by rw[O,←tW];exact heap_alloc_new _ _
   rw[←O];have OS:w4.drew.cell? ⟨wr.heap.size,0,none⟩=some (.int .i64 (eZ j)):=bZ (w:=w4) L 0;have ir:w4.drew.cell? ⟨wr.heap.size,1,none⟩=some (.slice (some ⟨r j,0,none⟩) (aj j) (aj j)):=bZ (w:=w4) L 1;have V:Kept (aw R) wr w4.drew:=qO.out.trans (f.drew.dD _);have eX:=iK N.out (A.out.row j E);have I:=A.out.kept V (fun e=>DH N.out e) (fun i hi e=>(iK N.out (A.out.row i hi)).2 e)
   have W:=hK.out.then V (fun i hi=>Or.inl (by
    have h1:i=R:=hi;rw[h1]
    exact xK.out))
   have T:=C2.out.kept (f.drew) id id;have m:(au bs j).length=aj j:=jz U.out E;have cO:=I.row j E
   have wT:cj w4.drew (some ⟨b,o+eZ j,none⟩) (au bs j).length (au bs j):=by
    have h1:=(H.out.below (W.below (Qk _) (fun k hk=>hk.elim))).drop (k:=eZ j) (c:=c) (by omega) (by omega) U.out;rw[if_neg (by omega)]at h1;have Z:=h1.take (k:=aj j) (by omega);rw[m]
    simpa [WideShapes.add_plain,au]using Z
   have Nt:((iR todo eW (cH bs)) j).length=aj j:=I.fit j;have t:=Qh I;have C4:=Qh W;have q:=Qh T;have M:=Qh eX;have vW:=Qh cO;have N7:=Qh wT;have J:=Qh m;have Rf:=Qh Nt;have NL:=Qh L;have xN:Hid (w4.drew.rangeLeft B R<wr.rangeLeft B R):=Qh (by rw[T.2];exact Ha.out);clear V eX I W T m cO wT Nt L f O OZ
   go_region_held_law (fun w'=>w'.cell? ⟨wr.heap.size,0,none⟩=some (.int .i64 (eZ j))∧w'.cell? ⟨wr.heap.size,1,none⟩=some (.slice (some ⟨r j,0,none⟩) (aj j) (aj j))) (first|exact⟨OS,ir⟩|exact VS)
    (first
     |(refine tu rfl _ _ 26 26 rfl 5 Tryz.underlying26 BH (some ⟨r j,0,none⟩) (some ⟨b,o+eZ j,none⟩) (aj j) (aj j) (512 - eZ j) (c - eZ j) rfl rfl (r j) 0 (iR todo eW (cH bs) j) vW.out (au bs j)
        (by rw[J.out];exact(Nat.min_eq_right (by omega)).symm) (fun _=>rfl) N7.out (by rw[J.out,Rf.out];omega) ?_
       intro g Jl Y p8;have Jb:=Qh Y
       have VS:g.cell? ⟨wr.heap.size,0,none⟩=some (.int .i64 (eZ j))∧g.cell? ⟨wr.heap.size,1,none⟩=some (.slice (some ⟨r j,0,none⟩) (aj j) (aj j)):=by
        have h5:g.heap[wr.heap.size]? =_:=Y.some_ (show w4.drew.heap[wr.heap.size]? =_ from NL.out) (fun e=>by
         have h1:wr.heap.size=r j:=e;have Z:=(A.out.row j G.out).lt
         omega)
        exact⟨bZ h5 0,bZ h5 1⟩
       clear Y))
   simp only[List.getElem_toArray,List.getElem_cons_succ,List.getElem_cons_zero]
   go_frame
   go_wp2;go_roundw
   case rel=>
    have hk:=Jb.out;have LZ:=t.out.lo.2 j G.out
    refine⟨fun z=>todo z&&z != j,Qh (q.out.1.kept hk (fun e=>M.out.1 (Eq.symm e)) (fun e=>M.out.2 (Eq.symm e))).1,Qh ?_,Qh (C4.out.then hk (fun i hi=>Or.inl (by
     have h1:i=r j:=hi;rw[h1]
     exact LZ)))⟩
    have hw:=t.out.wrote G.out hk (l:=au bs j) J.out (by
     have h1:=Jl.out
     rwa [lQ,jq (by rw[J.out,Rf.out])]at h1)
    have e:=sI (todo:=todo) (a:=eW) (b:=cH bs) j;rw[show cH bs j=au bs j by unfold cH;rw[if_pos G.out]]at e;rw[e]at hw;exact hw
   case measure=>
    have hk:=Jb.out;have h1:=(q.out.1.kept hk (fun e=>M.out.1 (Eq.symm e)) (fun e=>M.out.2 (Eq.symm e))).2;have Z:=xN.out;omega
theorem uC (lo B:Nat) (r:Nat→Nat) (own:Nat→List UInt8) (w:World) (KM:aT w lo B r own):
 Calls Tryz.prog 161 #[.map (some B)] w fun e w'=>∃g,e=.returned (.slice (some ⟨g,0,none⟩) 512 512)∧dS w' g (ca own)∧w.heap.size≤g∧Kept af w w':=by
 obtain⟨i0,y,fz,ez,eB⟩:=info_parts lx;have zS:=Qh y;have kN:=Qh fz;have jG:=Qh ez;have kO:=Qh eB;have NY:=Qh KM;have t:Hid (B<w.heap.size∧∀i,i<11→r i<w.heap.size):=Qh ⟨KM.map.lt,fun i hi=>(KM.row i hi).lt⟩;clear y fz ez eB KM
 go_enter Tryz.func161,Tryz.ntmps161
 go_wp2_with (at_make;refine wpList_make_full _ rfl _ _ 26 rfl w.heap.size 5 i0 (.int .u8 0) 1 Tryz.underlying26 zS.out kN.out jG.out .i64 .i64 _ _ 512 rfl rfl rfl rfl (by rw[kO.out];omega) (by decide) (Qk _) ?_)
 intro w1 ba bh;have G:=Kj ba;rw[←yf]at G;have X:Kept af w w1:=(Kept.refl af w).grown bh (fun k hk=>by cases hk);obtain⟨g,hg⟩:∃g,g=w.heap.size:=⟨_,rfl⟩
 rw[←hg]at G⊢;have o:=Qh (NY.out.cz X);have Rg:=Qh G;have eY:=Qh X;have L:Hid (w.heap.size≤g):=Qh (by omega);clear ba bh G X;obtain⟨R,c⟩:∃R,R=w1.heap.size:=⟨_,rfl⟩
 go_wp2_with (first|(at_range;refine gu rfl _ rfl Tryz.underlying166 B o.out.map (fun _=>true) (fun _ _ _=>rfl) rfl R c ?_;intro w2 HI M uS)|go_in)
 have gJ:=Qh (eY.out.trans M.out);have vV:=Qh (o.out.cz M.out);have Rh:=Qh (Rg.out.kept M.out id);have xK:Hid (w.heap.size≤R):=Qh (by rw[c];exact eY.out.size);clear M uS c hg
 try go_frame
 go_loopw [9] (fun _ wr=>∃todo,Hid (fC wr B R (gV r) todo)∧Hid (aT wr lo B r own)∧Hid (dS wr g (ca (iR todo eW own)))∧Hid (Kept af w wr)) (fun _ wr=>wr.rangeLeft B R)
 case atStart=>exact⟨fun _=>true,HI,vV,by
  have e:iR (fun _=>true) eW own=eW:=by funext i;exact if_pos rfl
  rw[e];exact Rh,gJ⟩
 case round=>
  obtain⟨todo,T,E,O,hK⟩:=hrel
  go_wp2_with (at_next;refine ik rfl _ rfl B R todo (cA r) (vq r) rfl T.out ?_ ?_)
  ·intro hd
   have A:∀i,i<11→todo i=false:=fun i hi=>hd i (cA r i) (by unfold gV;rw[if_pos hi])
   have HD:=Qh (za (todo:=todo) kG E.out.fit A);clear hd A;go_wp2;go_ret;refine⟨g,rfl,?_,L.out,hK.out⟩;rw[←HD.out];exact O.out
  ·intro j w3 v D L6 C2 Ha qO tW u
   have D:=zl D;have OZ:(Instr.entry (.pointer (some ⟨R,0,none⟩))).run Tryz.prog w3=.ok (.tuple #[.int .i64 (j:Int),.agg #[.int .i64 (eZ j),.slice (some ⟨r j,0,none⟩) (aj j) (aj j)]]) w3:=u;have hw:=j4 D;have jR:=kZ D;have HJ:=Qh D;clear u;go_wp2_with fail;obtain⟨w4,U⟩:∃w4,w4=w3.alloc (.cells #[.int .i64 (eZ j),.slice (some ⟨r j,0,none⟩) (aj j) (aj j)] 169):=⟨_,rfl⟩
   have d:Kept af w3 w4:=by rw[U];exact(Kept.refl _ _).alloc _
   have I:w4.heap[wr.heap.size]? =some (.cells #[.int .i64 (eZ j),.slice (some ⟨r j,0,none⟩) (aj j) (aj j)] 169 (0,0)):=by rw[U,←tW];exact heap_alloc_new _ _
   rw[←U];have OS:w4.drew.cell? ⟨wr.heap.size,0,none⟩=some (.int .i64 (eZ j)):=bZ (w:=w4) I 0;have ir:w4.drew.cell? ⟨wr.heap.size,1,none⟩=some (.slice (some ⟨r j,0,none⟩) (aj j) (aj j)):=bZ (w:=w4) I 1;have J:Kept (aw R) wr w4.drew:=qO.out.trans (d.drew.dD _);have Y:=iK T.out O.out;have W:=E.out.kept J (fun e=>DH T.out e) (fun i hi e=>(iK T.out (E.out.row i hi)).2 e)
   have Qq:=hK.out.then J (fun i hi=>Or.inl (by
    have h1:i=R:=hi;rw[h1]
    exact xK.out))
   have V:=C2.out.kept (d.drew) id id;have l:(own j).length=aj j:=E.out.fit j;have cO:dS w4.drew g (ca (iR todo eW own)):=O.out.kept J (fun e=>Y.2 e)
   have wT:cj w4.drew (some ⟨r j,0,none⟩) (own j).length (own j):=by
    rw[l];exact W.iZ D
   have C6:=Qh W;have C4:=Qh Qq;have m:=Qh V;have N:=Qh Y;have vW:=Qh cO;have N7:=Qh wT;have H:=Qh l;have NL:=Qh I;have p:Hid (Fits (iR todo eW own)):=Qh (zb kG E.out.fit);have xN:Hid (w4.drew.rangeLeft B R<wr.rangeLeft B R):=Qh (by rw[V.2];exact Ha.out);clear J Y W Qq V l cO wT I d U OZ
   go_region_held_law (fun w'=>w'.cell? ⟨wr.heap.size,0,none⟩=some (.int .i64 (eZ j))∧w'.cell? ⟨wr.heap.size,1,none⟩=some (.slice (some ⟨r j,0,none⟩) (aj j) (aj j))) (first|exact⟨OS,ir⟩|exact VS)
    (first
     |(refine tu rfl _ _ 26 26 rfl 5 Tryz.underlying26 BH (some ⟨g,eZ j,none⟩) (some ⟨r j,0,none⟩) (512 - eZ j) (512 - eZ j) (aj j) (aj j) rfl rfl g (eZ j) (ca (iR todo eW own)) vW.out (own j)
        (by rw[H.out];exact(Nat.min_eq_left (by omega)).symm) (fun _=>rfl) N7.out (by rw[H.out,bD];omega) ?_
       intro f Jl Z p8;have q:=Qh Z
       have VS:f.cell? ⟨wr.heap.size,0,none⟩=some (.int .i64 (eZ j))∧f.cell? ⟨wr.heap.size,1,none⟩=some (.slice (some ⟨r j,0,none⟩) (aj j) (aj j)):=by
        have h5:f.heap[wr.heap.size]? =_:=Z.some_ (show w4.drew.heap[wr.heap.size]? =_ from NL.out) (fun e=>by
         have h1:wr.heap.size=g:=e;have b:=O.out.lt
         omega)
        exact⟨bZ h5 0,bZ h5 1⟩
       clear Z))
   simp only[List.getElem_toArray,List.getElem_cons_succ,List.getElem_cons_zero]
   go_frame
   go_wp2;go_roundw
   case rel=>
    have hk:=q.out
    refine⟨fun z=>todo z&&z != j,Qh (m.out.1.kept hk (fun e=>N.out.1 (Eq.symm e)) (fun e=>N.out.2 (Eq.symm e))).1,Qh (C6.out.kept hk (fun e=>?_) (fun i hi e=>?_)),Qh ?_,Qh (C4.out.then hk (fun i hi=>Or.inl (by
     have h1:i=g:=hi;rw[h1]
     exact L.out)))⟩
    ·have h1:B=g:=e
     have b:=t.out.1;have h3:=L.out;omega
    ·have h1:r i=g:=e
     have b:=t.out.2 i hi;have h3:=L.out;omega
    ·have h1:=Jl.out
     rw[uh p.out HJ.out (by rw[H.out];exact Qk _),jq (by rw[H.out,p.out j]),sI]at h1;exact h1
   case measure=>
    have hk:=q.out;have h1:=(m.out.1.kept hk (fun e=>N.out.1 (Eq.symm e)) (fun e=>N.out.2 (Eq.symm e))).2;have b:=xN.out;omega
end Head
namespace Head
open Hp Go.Proofs.YtdhibldkldlfpaaGreatDoor.Mp Fp Go.Proofs.YtdhibldkldlfpaaGreatDoor.Field
variable {own:Nat→List UInt8}
def kr (lU:Nat→Int):Nat→Option Value:=fun i=>if 1≤i∧i≤5 then some (.int .i64 (lU i))else none
theorem zg (lU:Nat→Int):∀j v,kr lU j=some v→v=.int .i64 (lU j):=fun j v h=>by
 unfold kr at h;split at h
 ·exact(Option.some.inj h).symm
 ·cases h
theorem DU {lU:Nat→Int} (h:kr lU j=some v):1≤j∧j≤5:=by
 unfold kr at h;split at h
 ·assumption
 ·cases h
theorem ow (lU:Nat→Int) (h1:1≤j) (h2:j≤5):kr lU j=some (.int .i64 (lU j)):=by
 unfold kr;rw[if_pos ⟨h1,h2⟩]
theorem mI (n l:ByteArray) (k m u g t z:Int) (eG:Bool) (lU:Nat→Int) (h1:lU 1=m) (h2:lU 2=u) (h3:lU 3=g) (h4:lU 4=z) (h5:lU 5=t) (w:World):
 Calls Tryz.prog 138 #[.agg #[.string n,.string l,.int .u8 k,.int .i64 m,.int .i64 u,.int .i64 g,.int .i64 t,.int .i64 z,.bool eG]] w fun e w'=>∃N,e=.returned (.map (some N))∧iY w' N (kr lU)∧w.heap.size≤N∧Kept af w w':=by
 obtain⟨O,hO⟩:∃O,O=Obj.cells #[.string n,.string l,.int .u8 k,.int .i64 m,.int .i64 u,.int .i64 g,.int .i64 t,.int .i64 z,.bool eG] 66:=⟨_,rfl⟩
 have L:=pk (w.alloc O);rw[World.size_alloc,hO]at L;have f:=Qh L;have D:((w.alloc O).alloc (.map #[] 0)).heap[w.heap.size]? =some O:=((Kept.refl af (w.alloc O)).alloc (.map #[] 0)).some_ (heap_alloc_new w O) id;have I:Kept af w ((w.alloc O).alloc (.map #[] 0)):=((Kept.refl af w).alloc O).alloc _;rw[hO]at D I;have oP:=Qh D;have p:=Qh I;clear L D I hO
 have off:¬aw (w.heap.size+1) w.heap.size:=fun e=>by
  have:w.heap.size=w.heap.size+1:=e;omega
 have B:=Qh off
 have lo:∀i,aw (w.heap.size+1) i→w.heap.size≤i∨af i:=fun i hi=>Or.inl (by
  have:i=w.heap.size+1:=hi
  omega)
 have A:=Qh lo;clear off lo;have mm:=@run_makeMap Tryz.prog
 go_enter Tryz.func138,Tryz.ntmps138
 go_wp2_with (refine dq rfl _ _ _ (Or.inr rfl) Tryz.underlying171 Tryz.underlying170 (w.heap.size+1) f.out rfl 1 rfl rfl (.int .i64 m) rfl ?_)
 intro w1 q G nW;have M:=Qh (G.out.some_ oP.out B.out);have Z:=Qh (p.out.then G.out A.out);have Y:=bZ M.out 4;clear G nW
 go_wp2_with (refine dq rfl _ _ _ (Or.inr rfl) Tryz.underlying171 Tryz.underlying170 (w.heap.size+1) q.out rfl 2 rfl rfl (.int .i64 u) rfl ?_)
 intro w2 b E uS;have R:=Qh (E.out.some_ M.out B.out);have d:=Qh (Z.out.then E.out A.out);have c5:=bZ R.out 5;clear E uS Y
 go_wp2_with (refine dq rfl _ _ _ (Or.inr rfl) Tryz.underlying171 Tryz.underlying170 (w.heap.size+1) b.out rfl 3 rfl rfl (.int .i64 g) rfl ?_)
 intro w3 c H tW;have T:=Qh (H.out.some_ R.out B.out);have qO:=Qh (d.out.then H.out A.out);have c6:=bZ T.out 6;clear H tW c5
 go_wp2_with (refine dq rfl _ _ _ (Or.inr rfl) Tryz.underlying171 Tryz.underlying170 (w.heap.size+1) c.out rfl 5 rfl rfl (.int .i64 t) rfl ?_)
 intro w4 mu J X;have r:=Qh (J.out.some_ T.out B.out);have V:=Qh (qO.out.then J.out A.out);have c7:=bZ r.out 7;clear J X c6
 go_wp2_with (refine dq rfl _ _ _ (Or.inr rfl) Tryz.underlying171 Tryz.underlying170 (w.heap.size+1) mu.out rfl 4 rfl rfl (.int .i64 z) rfl ?_)
 intro w5 o U p8;have W:=Qh (V.out.then U.out A.out);clear U p8 c7;go_wp2;go_ret;refine⟨_,rfl,?_,by omega,W.out⟩
 have e:(kr lU)=fun y=>if y=4 then some (Value.int .i64 z)else if y=5 then some (Value.int .i64 t)else if y=3 then some (Value.int .i64 g)else if y=2 then some (Value.int .i64 u)else if y=1 then some (Value.int .i64 m)else none:=by
  funext y
  unfold kr
  match y with
  |0=>rfl
  |1=>rw[h1];rfl
  |2=>rw[h2];rfl
  |3=>rw[h3];rfl
  |4=>rw[h4];rfl
  |5=>rw[h5];rfl
  |y+6=>rw[if_neg (by omega),if_neg (by omega),if_neg (by omega),if_neg (by omega),if_neg (by omega),if_neg (by omega)]
 rw[e];exact o.out
def ox (own:Nat→List UInt8):Bool:=(List.range 5).all fun i=>J0 (aX (own (i+1)))
theorem mf:ox own=true↔∀i,1≤i→i≤5→J0 (aX (own i))=true:=by
 unfold ox;rw[List.all_eq_true];constructor
 ·intro h i h1 A
  have:=h (i - 1) (List.mem_range.2 (by omega))
  rwa [show i - 1+1=i by omega]at this
 ·intro h i hi
  have:=List.mem_range.1 hi;exact h (i+1) (by omega) (by omega)
def H9 (w:World) (own:Nat→List UInt8) (e:Ending) (w':World):Prop:=
 Kept af w w'∧((ox own=true∧∃Q,e=.returned (.tuple #[.map (some Q),.bool true])∧iY w' Q (kr fun i=>oK (aX (own i))))∨(ox own=false∧e=.returned (.tuple #[.map none,.bool false])))
theorem qe (lo B:Nat) (r:Nat→Nat) (own:Nat→List UInt8) (w:World) (KM:aT w lo B r own):
 Calls Tryz.prog 104 #[.map (some B)] w (H9 w own):=by
 have fl:=fK;have W:=Qh KM;have sb:=pk w;have gW:=Qh sb;have jJ:=Qh ((Kept.refl af w).alloc (.map #[] 0));clear KM sb;have mm:=@run_makeMap Tryz.prog
 go_enter Tryz.func104,Tryz.ntmps104
 go_wp2_with fail
 refine(mI ⟨#[]⟩ ⟨#[]⟩ 0 0 0 0 0 0 false (fun _=>0) rfl rfl rfl rfl rfl _).mono ?_;rintro e w1 ⟨N,rfl,hN,t,M⟩;have HN:=Qh hN;have o:Hid (N≠w.heap.size):=Qh (by rw[World.size_alloc]at t;omega);have XD:=Qh (gW.out.kept M id);have Ee:=Qh ((W.out.cz jJ.out).cz M);have eY:=Qh (jJ.out.trans M);clear hN t M;obtain⟨R,hR⟩:∃R,R=w1.heap.size:=⟨_,rfl⟩
 go_wp2_with (first|(at_range;refine gu rfl _ rfl Tryz.underlying171 N HN.out (fun _=>true) (fun _ _ _=>rfl) rfl R hR ?_;intro w2 HI L uS)|go_in)
 have gJ:=Qh (eY.out.trans L.out);have vV:=Qh (Ee.out.cz L.out);have C7:=Qh (XD.out.kept L.out id)
 have T:Hid (w.heap.size<R):=Qh (by
  have:=XD.out.lt
  omega)
 clear L uS hR
 try go_frame
 go_loopw [12] (fun _ wr=>∃todo,Hid (fC wr N R (kr fun _=>0) todo)∧Hid (aT wr lo B r own)∧Hid (iY wr w.heap.size (fun i=>if todo i=true then none else kr (fun i=>oK (aX (own i))) i))∧Hid (Kept af w wr)∧Hid (∀i,1≤i→i≤5→todo i=false→J0 (aX (own i))=true)) (fun _ wr=>wr.rangeLeft N R)
 case atStart=>exact⟨fun _=>true,HI,vV,by
  have e:(fun i=>if true=true then none else kr (fun i=>oK (aX (own i))) i)=fun _=>(none:Option Value):=by funext i;rfl
  rw[e];exact C7,gJ,Qh (fun i _ _ h=>by cases h)⟩
 case round=>
  obtain⟨todo,Y,Z,hQ,hK,hD⟩:=hrel
  go_wp2_with (at_next;refine ik rfl _ rfl N R todo (fun _=>.int .i64 0) (zg _) rfl Y.out ?_ ?_)
  ·intro hd
   have D:∀i,1≤i→i≤5→todo i=false:=fun i h1 A=>hd i (.int .i64 0) (ow _ h1 A)
   have I:Hid (ox own=true∧(fun i=>if todo i=true then none else kr (fun i=>oK (aX (own i))) i)=kr fun i=>oK (aX (own i))):=Qh ⟨mf.2 fun i h1 A=>hD.out i h1 A (D i h1 A),by
    funext i
    split
    ·rename_i E
     unfold kr;rw[if_neg];rintro⟨h1,A⟩;rw[D i h1 A]at E
     cases E
    ·rfl⟩
   clear hd D;go_wp2;go_ret2;refine⟨hK.out,Or.inl ⟨I.out.1,_,rfl,?_⟩⟩;have h1:=hQ.out;rw[I.out.2]at h1;exact h1
  ·intro j w3 v b m C2 Ha c tW LU
   have b:=DU b;obtain⟨O6,Wf⟩:=b;have f:j<11:=by omega
   have V:=Z.out.kept c.out (fun e=>by
    have h1:=Z.out.map;have A:=Y.out;obtain⟨es,clock,hb,_⟩:=h1;obtain⟨_,_,_,_,_,_,_,_,_,hr,_⟩:=A;have e:B=R:=e;rw[←e,hb]at hr
    cases hr) (fun i hi e=>(iK Y.out (Z.out.row i hi)).2 e)
   have u:=hQ.out.kept c.out (fun e=>by
    have e:w.heap.size=R:=e;have:=T.out
    omega)
   have p:=hK.out.then c.out (fun i hi=>Or.inl (by
    have h1:i=R:=hi;have:=T.out
    omega))
   have lk:(Instr.lookup 166 (.map (some B)) (.int .i64 (j:Int)) false).run Tryz.prog w3=.ok (.agg #[.int .i64 (eZ j),.slice (some ⟨r j,0,none⟩) (aj j) (aj j)]) w3:=
    V.map.look (P:=Tryz.prog) Tryz.underlying166 Tryz.underlying170 (x:=j) (v:=cA r j) (by unfold gV;rw[if_pos f])
   have hw:=j4 f;have HJ:=Qh f;have d:=Qh V;have Q9:=Qh u;have Ac:=Qh p;have HW:=Qh hw;have XK:=Qh m;have J:Hid (1≤j∧j≤5):=Qh ⟨O6,Wf⟩;clear V u p hw m;go_wp2_with fail;refine(vo _ (aj j) (aj j) (own j) w3 (d.out.fit j) (Qk _) (by have:=HW.out;unfold maxLen;omega) (d.out.iZ HJ.out)).mono ?_;rintro e w4 ⟨rfl,fA⟩;have H:Kept af w3 w4:=Kept.aM fA _;have C6:=Qh (d.out.cz H);have ZI:=Qh (Q9.out.kept H id);have l:=Qh (Ac.out.trans H);have U:=C2.out.kept H id id;have g:=Qh U.1;have UI:Hid (w4.rangeLeft N R<wr.rangeLeft N R):=Qh (by rw[U.2];exact Ha.out);clear fA H U lk
   by_cases G:J0 (aX (own j))=true
   ·have Ty:=Qh G
    rw[G];clear G
    go_wp2_with (first|(at_mapUpdate;refine dq rfl _ _ _ (Or.inl rfl) Tryz.underlying171 Tryz.underlying170 w.heap.size ZI.out rfl j rfl (by rw[XK.out];rfl) (.int .i64 (oK (aX (own j)))) rfl ?_;intro w5 ZJ O p8)|go_in)
    try go_frame
    try go_wp2
    go_roundw
    case rel=>
     have X:=g.out.kept O.out o.out (fun e=>by
      have e:R=w.heap.size:=e;have:=T.out
      omega)
     refine⟨fun z=>todo z&&z != j,Qh X.1,Qh (C6.out.kept O.out (fun e=>?_) (fun i hi e=>?_)),Qh ?_,Qh (l.out.then O.out (fun i hi=>Or.inl (by
      have h1:i=w.heap.size:=hi
      omega))),Qh (fun i h1 A E=>?_)⟩
     ·have e:B=w.heap.size:=e
      have:=W.out.map.lt;omega
     ·have e:r i=w.heap.size:=e
      have:=(W.out.row i hi).lt;omega
     ·have h1:=ZJ.out
      have e:(fun y=>if y=j then some (Value.int .i64 (oK (aX (own j))))else if todo y=true then none else kr (fun i=>oK (aX (own i))) y)=fun i=>if(todo i&&i != j)=true then none else kr (fun i=>oK (aX (own i))) i:=by
       funext y
       by_cases hy:y=j
       ·subst hy
        rw[if_pos rfl,if_neg (by simp),ow _ J.out.1 J.out.2]
       ·have A:(y != j)=true:=by simpa using hy
        rw[if_neg hy,A,Bool.and_true]
      rw[e]at h1;exact h1
     ·by_cases q6:i=j
      ·rw[q6];exact Ty.out
      ·have h3:(i != j)=true:=by simpa using q6
       have E:(todo i&&i != j)=false:=E;rw[h3,Bool.and_true]at E;exact hD.out i h1 A E
    case measure=>
     have X:=g.out.kept O.out o.out (fun e=>by
      have e:R=w.heap.size:=e;have:=T.out
      omega)
     have h1:=UI.out;have A:=X.2;omega
   ·have q:J0 (aX (own j))=false:=by simpa using G
    have I:Hid (ox own=false):=Qh (by
     cases hc:ox own with
     |false=>rfl
     |true=>exact absurd (mf.1 hc j J.out.1 J.out.2) G)
    rw[q];clear G q;go_wp2;go_ret2;exact⟨l.out,Or.inr ⟨I.out,rfl⟩⟩
def Kl (r:Nat→Nat):Nat→Prop:=fun k=>∃i,i<11∧k=r i
def sM (h:ak) (own:Nat→List UInt8):Nat→List UInt8:=fun i=>if 1≤i∧i≤5 then Cb h i else own i
def pH (w:World) (lo B:Nat) (r:Nat→Nat) (h:ak) (own:Nat→List UInt8) (e:Ending) (w':World):Prop:=
 Kept (Kl r) w w'∧((eA h=true∧e=.returned (.bool true)∧aT w' lo B r (sM h own))∨(eA h=false∧e=.returned (.bool false)))
theorem sZ (h:ak) (Pn:∀i,(Lit.int .i64 (jB h i)).wf=true) (lo B:Nat) (r:Nat→Nat) (own:Nat→List UInt8) (w:World) (KM:aT w lo B r own) (hz:∀i,1≤i→i≤5→own i=List.replicate (aj i) 0):
 Calls Tryz.prog 158 #[.map (some B),.agg #[.string (str h.name),.string (str h.link),.int .u8 (h.kind.toNat:Int),.int .i64 h.mode,.int .i64 h.uid,.int .i64 h.gid,.int .i64 h.time,.int .i64 h.size,.bool h.eG]] w (pH w lo B r h own):=by
 have fl:=fK;have NY:=Qh KM;have HZ:=Qh hz;have U7:=Qh Pn;have jJ:=Qh ((Kept.refl af w).alloc (.cells #[.string (str h.name),.string (str h.link),.int .u8 (h.kind.toNat:Int),.int .i64 h.mode,.int .i64 h.uid,.int .i64 h.gid,.int .i64 h.time,.int .i64 h.size,.bool h.eG] 66));clear KM hz Pn
 go_enter Tryz.func158,Tryz.ntmps158
 go_wp2_with fail
 refine(mI _ _ _ _ _ _ _ _ _ (jB h) rfl rfl rfl rfl rfl _).mono ?_;rintro e w1 ⟨N,rfl,hN,TP,c⟩;have HN:=Qh hN;have Ee:=Qh ((NY.out.cz jJ.out).cz c);have eY:=Qh (jJ.out.trans c);clear hN TP c;obtain⟨R,g⟩:∃R,R=w1.heap.size:=⟨_,rfl⟩
 go_wp2_with (first|(at_range;refine gu rfl _ rfl Tryz.underlying171 N HN.out (fun _=>true) (fun _ _ _=>rfl) rfl R g ?_;intro w2 HI Z uS)|go_in)
 have gJ:=Qh ((eY.out.trans Z.out).dD (Kl r));have vV:=Qh (Ee.out.cz Z.out);have xK:Hid (w.heap.size≤R):=Qh (by rw[g];exact eY.out.size);clear Z uS g
 try go_frame
 go_loopw [12] (fun _ wr=>∃todo,Hid (fC wr N R (kr (jB h)) todo)∧Hid (aT wr lo B r (iR todo own (sM h own)))∧Hid (Kept (Kl r) w wr)∧Hid (∀i,1≤i→i≤5→todo i=false→(eD (jB h i) (aj i)).isSome=true)) (fun _ wr=>wr.rangeLeft N R)
 case atStart=>exact⟨fun _=>true,HI,by
  have e:iR (fun _=>true) own (sM h own)=own:=by funext i;exact if_pos rfl
  rw[e];exact vV,gJ,Qh (fun i _ _ h=>by cases h)⟩
 case round=>
  obtain⟨todo,f,L,hK,hD⟩:=hrel
  go_wp2_with (at_next;refine ik rfl _ rfl N R todo (fun j=>.int .i64 (jB h j)) (zg _) rfl f.out ?_ ?_)
  ·intro hd
   have D:∀i,1≤i→i≤5→todo i=false:=fun i h1 A=>hd i _ (ow _ h1 A)
   have H:Hid (eA h=true∧iR todo own (sM h own)=sM h own):=Qh ⟨cP.2 fun i h1 A=>hD.out i h1 A (D i h1 A),by
    funext i
    unfold iR;split
    ·rename_i E
     unfold sM;rw[if_neg];rintro⟨h1,A⟩;rw[D i h1 A]at E
     cases E
    ·rfl⟩
   clear hd D;go_wp2;go_ret;refine⟨hK.out,Or.inl ⟨H.out.1,rfl,?_⟩⟩;have h1:=L.out;rw[H.out.2]at h1;exact h1
  ·intro j w3 v o L6 t Ha qO tW LU
   have o:=DU o;obtain⟨O6,Wf⟩:=o;have O:j<11:=by omega
   have V:=L.out.kept qO.out (fun e=>by
    have h1:=L.out.map;have A:=f.out;obtain⟨es,clock,hb,_⟩:=h1;obtain⟨_,_,_,_,_,_,_,_,_,hr,_⟩:=A;have e:B=R:=e;rw[←e,hb]at hr
    cases hr) (fun i hi e=>(iK f.out (L.out.row i hi)).2 e)
   have RA:=hK.out.then qO.out (fun i hi=>Or.inl (by
    have h1:i=R:=hi;have:=xK.out
    omega))
   have lk:(Instr.lookup 166 (.map (some B)) (.int .i64 (j:Int)) false).run Tryz.prog w3=.ok (.agg #[.int .i64 (eZ j),.slice (some ⟨r j,0,none⟩) (aj j) (aj j)]) w3:=
    V.map.look (P:=Tryz.prog) Tryz.underlying166 Tryz.underlying170 (x:=j) (v:=cA r j) (by unfold gV;rw[if_pos O])
   have hw:=j4 O;have HJ:=Qh O;have qP:=Qh V;have q:=Qh RA;have HW:=Qh hw;have XK:=Qh L6;have W:Hid (1≤j∧j≤5):=Qh ⟨O6,Wf⟩;have G:=Qh (iK (t.out) (qP.out.row j O));clear V RA hw L6;go_wp2_with fail
   refine(DZ (jB h j) (aj j) w3 (U7.out j) (by
    have:=HW.out
    exact WalkArith.wf_i64 (by omega))).mono ?_
   rintro e w4 ⟨J,(⟨l,v4,hl,rfl,ba⟩|⟨hl,rfl⟩)⟩
   ·have hlen:=ql hl
    obtain⟨p4,c4,rfl,m,p,qC,_⟩:=D0 rfl hl ba;have M:Kept af w3 w4:=Kept.aM J _;have y:=Qh (qP.out.cz M);have U:=Qh (q.out.trans (M.dD _));have T:=t.out.kept M id id;have u:=Qh T.1;have UI:Hid (w4.rangeLeft N R<wr.rangeLeft N R):=Qh (by rw[T.2];exact Ha.out);have jP:(bytesOf l).length=aj j:=by rw[bytesOf_length];omega
    have cs:(convert 26 9 (.slice p4 l.length c4)).run Tryz.prog w4=.ok (.string (str (bytesOf l))) w4:=cK qC (by rw[bytesOf_length]) _ _ _ Tryz.underlying26 Tryz.underlying5 Tryz.underlying9 c4;have HB:Hid (Cb h j=bytesOf l):=Qh (pn hl);have Hu:=Qh jP;have ZM:Hid ((eD (jB h j) (aj j)).isSome=true):=Qh (by rw[hl];rfl);clear hl ba hlen m p qC J M T lk jP;go_wp2_with fail;refine(fU lo B r _ j (str (bytesOf l)) w4 HJ.out y.out).mono ?_;rintro e w5 ⟨rfl,I,gM,p8⟩;have hold:(iR todo own (sM h own) j).length=aj j:=y.out.fit j;rw[bg,List.take_of_length_le (by rw[Hu.out];exact Qk _),jq (by rw[Hu.out,hold])]at I;have d:=sI (todo:=todo) (a:=own) (b:=sM h own) j;rw[show sM h own j=bytesOf l by unfold sM;rw[if_pos W.out,HB.out]]at d;rw[d]at I;have UO:=Qh I;have X:=Qh gM;clear I gM p8 hold d cs;go_wp2;go_roundw
    case rel=>
     have Y:=u.out.kept X.out (fun e=>G.out.1 (Eq.symm e)) (fun e=>G.out.2 (Eq.symm e));refine⟨fun z=>todo z&&z != j,Qh Y.1,UO,Qh (U.out.trans (X.out.mono (fun k hk=>⟨j,HJ.out,hk⟩))),Qh (fun i h1 A E=>?_)⟩
     by_cases q6:i=j
     ·rw[q6];exact ZM.out
     ·have h3:(i != j)=true:=by simpa using q6
      have E:(todo i&&i != j)=false:=E;rw[h3,Bool.and_true]at E;exact hD.out i h1 A E
    case measure=>
     have Y:=u.out.kept X.out (fun e=>G.out.1 (Eq.symm e)) (fun e=>G.out.2 (Eq.symm e));have h1:=UI.out;have A:=Y.2;omega
   ·have H:Hid (eA h=false):=Qh (by
     cases hc:eA h with
     |false=>rfl
     |true=>
      have:=cP.1 hc j W.out.1 W.out.2;rw[hl]at this
      cases this)
    have U:=Qh (q.out.trans (Kept.aM J _));clear hl J lk;go_wp2;go_ret;exact⟨U.out,Or.inr ⟨H.out,rfl⟩⟩
theorem gG {fn:Func} (hf:fn.results=#[.cell 2 66,.tmp 3]) (tmps:Array Value) (w:World) (g:Nat) (v:Value) (ht:tmps.getD 2 undef=.pointer (some ⟨g,0,none⟩)) (hv:tmps.getD 3 undef=v)
 (a b:ByteArray) (k m u i t z:Int) (n:Bool) (h:w.heap[g]? =some (.cells #[.string a,.string b,.int .u8 k,.int .i64 m,.int .i64 u,.int .i64 i,.int .i64 t,.int .i64 z,.bool n] 66 (0,0))):
 (results fn tmps).run Tryz.prog w=.ok (.tuple #[.agg #[.string a,.string b,.int .u8 k,.int .i64 m,.int .i64 u,.int .i64 i,.int .i64 t,.int .i64 z,.bool n],v]) w:=by
 rw[results_cell_tmp hf,ht,hv];have hl:=me w g a b k m u i t z n h;simp[asAddr,hl,Result.andThen]
theorem Nz {lo:Nat} {r:Nat→Nat} (h:aT w lo B r own) (i:Nat) (hi:i<11):
 (Instr.lookup 166 (.map (some B)) (.int .i64 (i:Int)) false).run Tryz.prog w=.ok (.agg #[.int .i64 (eZ i),.slice (some ⟨r i,0,none⟩) (aj i) (aj i)]) w:=
 h.map.look (P:=Tryz.prog) Tryz.underlying166 Tryz.underlying170 (x:=i) (v:=cA r i) (by unfold gV;rw[if_pos hi])
theorem kt (bs:List UInt8):ox (cH bs)=jk bs:=by
 have e:∀i,1≤i→i≤5→cH bs i=au bs i:=fun i h1 A=>if_pos (by omega)
 cases h:jk bs with
 |true=>
  refine mf.2 fun i h1 A=>?_
  rw[e i h1 A];exact lG.1 h i h1 A
 |false=>
  cases A:ox (cH bs)with
  |false=>rfl
  |true=>
   have E:jk bs=true:=lG.2 fun i B D=>by
    rw[←e i B D];exact mf.1 A i B D
   rw[h]at E
   cases E
theorem lL (bs:List UInt8) (i:Nat) (hi:i<11):cH bs i=au bs i:=if_pos hi
def gj:Array Value:=#[.string ⟨#[]⟩,.string ⟨#[]⟩,.int .u8 0,.int .i64 0,.int .i64 0,.int .i64 0,.int .i64 0,.int .i64 0,.bool false]
theorem ml {e:TypeId} (h:w.heap[g]? =some (.cells gj e (0,0))) (v0 v1 v2 v3 v4 v5 v6 v7 v8:Value):
 (((((((((w.setCell ⟨g,0,none⟩ v0).setCell ⟨g,1,none⟩ v1).setCell ⟨g,2,none⟩ v2).setCell ⟨g,3,none⟩ v3).setCell ⟨g,4,none⟩ v4).setCell ⟨g,5,none⟩ v5).setCell ⟨g,6,none⟩ v6).setCell ⟨g,7,none⟩ v7).setCell ⟨g,8,none⟩ v8).heap[g]? =
   some (.cells #[v0,v1,v2,v3,v4,v5,v6,v7,v8] e (0,0)):=by
 have st:∀{w:World} {cs:Array Value} (i:Nat) (v:Value),w.heap[g]? =some (.cells cs e (0,0))→(w.setCell ⟨g,i,none⟩ v).heap[g]? =some (.cells (cs.setIfInBounds i v) e (0,0)):=by
  intro w cs i v h;rw[setCell_eq_setRow w g i _ _ _ _ h];exact setRow_heap w g _ _ _ _ h
 have A:(w.setCell ⟨g,0,none⟩ v0).heap[g]? =some (.cells #[v0,.string ⟨#[]⟩,.int .u8 0,.int .i64 0,.int .i64 0,.int .i64 0,.int .i64 0,.int .i64 0,.bool false] e (0,0)):=st 0 v0 h;have h1:((w.setCell ⟨g,0,none⟩ v0).setCell ⟨g,1,none⟩ v1).heap[g]? =some (.cells #[v0,v1,.int .u8 0,.int .i64 0,.int .i64 0,.int .i64 0,.int .i64 0,.int .i64 0,.bool false] e (0,0)):=st 1 v1 A;have B:(((w.setCell ⟨g,0,none⟩ v0).setCell ⟨g,1,none⟩ v1).setCell ⟨g,2,none⟩ v2).heap[g]? =some (.cells #[v0,v1,v2,.int .i64 0,.int .i64 0,.int .i64 0,.int .i64 0,.int .i64 0,.bool false] e (0,0)):=st 2 v2 h1;have D:((((w.setCell ⟨g,0,none⟩ v0).setCell ⟨g,1,none⟩ v1).setCell ⟨g,2,none⟩ v2).setCell ⟨g,3,none⟩ v3).heap[g]? =some (.cells #[v0,v1,v2,v3,.int .i64 0,.int .i64 0,.int .i64 0,.int .i64 0,.bool false] e (0,0)):=st 3 v3 B;have E:(((((w.setCell ⟨g,0,none⟩ v0).setCell ⟨g,1,none⟩ v1).setCell ⟨g,2,none⟩ v2).setCell ⟨g,3,none⟩ v3).setCell ⟨g,4,none⟩ v4).heap[g]? =some (.cells #[v0,v1,v2,v3,v4,.int .i64 0,.int .i64 0,.int .i64 0,.bool false] e (0,0)):=st 4 v4 D;have G:((((((w.setCell ⟨g,0,none⟩ v0).setCell ⟨g,1,none⟩ v1).setCell ⟨g,2,none⟩ v2).setCell ⟨g,3,none⟩ v3).setCell ⟨g,4,none⟩ v4).setCell ⟨g,5,none⟩ v5).heap[g]? =some (.cells #[v0,v1,v2,v3,v4,v5,.int .i64 0,.int .i64 0,.bool false] e (0,0)):=st 5 v5 E;have H:(((((((w.setCell ⟨g,0,none⟩ v0).setCell ⟨g,1,none⟩ v1).setCell ⟨g,2,none⟩ v2).setCell ⟨g,3,none⟩ v3).setCell ⟨g,4,none⟩ v4).setCell ⟨g,5,none⟩ v5).setCell ⟨g,6,none⟩ v6).heap[g]? =some (.cells #[v0,v1,v2,v3,v4,v5,v6,.int .i64 0,.bool false] e (0,0)):=st 6 v6 G
 have I:((((((((w.setCell ⟨g,0,none⟩ v0).setCell ⟨g,1,none⟩ v1).setCell ⟨g,2,none⟩ v2).setCell ⟨g,3,none⟩ v3).setCell ⟨g,4,none⟩ v4).setCell ⟨g,5,none⟩ v5).setCell ⟨g,6,none⟩ v6).setCell ⟨g,7,none⟩ v7).heap[g]? =some (.cells #[v0,v1,v2,v3,v4,v5,v6,v7,.bool false] e (0,0)):=st 7 v7 H;have J:(((((((((w.setCell ⟨g,0,none⟩ v0).setCell ⟨g,1,none⟩ v1).setCell ⟨g,2,none⟩ v2).setCell ⟨g,3,none⟩ v3).setCell ⟨g,4,none⟩ v4).setCell ⟨g,5,none⟩ v5).setCell ⟨g,6,none⟩ v6).setCell ⟨g,7,none⟩ v7).setCell ⟨g,8,none⟩ v8).heap[g]? =some (.cells #[v0,v1,v2,v3,v4,v5,v6,v7,v8] e (0,0)):=st 8 v8 I;exact J
theorem qa {w0:World} (h:Kept (aw g) w0 w) (v0 v1 v2 v3 v4 v5 v6 v7 v8:Value):
 Kept (aw g) w0 (((((((((w.setCell ⟨g,0,none⟩ v0).setCell ⟨g,1,none⟩ v1).setCell ⟨g,2,none⟩ v2).setCell ⟨g,3,none⟩ v3).setCell ⟨g,4,none⟩ v4).setCell ⟨g,5,none⟩ v5).setCell ⟨g,6,none⟩ v6).setCell ⟨g,7,none⟩ v7).setCell ⟨g,8,none⟩ v8):=by
 have st:∀{w:World} (i:Nat) (v:Value),Kept (aw g) w0 w→Kept (aw g) w0 (w.setCell ⟨g,i,none⟩ v):=fun i v h=>h.setCell (a:=⟨g,i,none⟩) (Or.inr (show aw g g from rfl)) v
 exact st 8 v8 (st 7 v7 (st 6 v6 (st 5 v5 (st 4 v4 (st 3 v3 (st 2 v2 (st 1 v1 (st 0 v0 h))))))))
theorem vL:str dO=⟨#[117,115,116,97,114,0,48,48]⟩:=rfl
theorem Dr:str qz=⟨#[117,115,116,97,114,32,32,0]⟩:=rfl
end Head
namespace Rec
open Path
def xU (R T:Int) (l:List UInt8) (w:World) (e:Ending) (w':World):Prop:=
 ∃p c,e=.returned (.tuple #[.slice p (cu R T l).1.length c,.int .i64 (cu R T l).2])∧(cu R T l).1.length≤c∧c≤maxLen∧bN w' p (cu R T l).1.length (cu R T l).1∧Below w.heap.size w w'
theorem oF (R T:Int) (l:List UInt8) (w w':World) (er:Int) (h:cu R T l=([],er)) (hb:Below w.heap.size w w'):xU R T l w (.returned (.tuple #[.slice none 0 0,.int .i64 er])) w':=
 ⟨none,0,by rw[h];rfl,by rw[h];exact Qk _,by decide,by rw[h];exact⟨rfl,fun h=>absurd h (by simp)⟩,hb⟩
end Rec
namespace Head
open Hp Go.Proofs.YtdhibldkldlfpaaGreatDoor.Mp
noncomputable def aO:Array Oper:=tf Tryz.f74 13
def pV (B Q:Nat) (mg nm ln:ByteArray) (eG:Bool) (kd v1 v2 v3 v4 v5:Int):Nat→Value
 |0=>.map (some B)|1=>.string mg|2=>.bool eG|3=>.string nm|4=>.map (some B)|5=>.string ln|6=>.map (some B)|7=>.int .u8 kd
 |8=>.map (some Q)|9=>.int .i64 v1|10=>.map (some Q)|11=>.int .i64 v2|12=>.map (some Q)|13=>.int .i64 v3|14=>.map (some Q)|15=>.int .i64 v5
 |16=>.agg #[.int .i64 v1,.int .i64 v2,.int .i64 v3,.int .i64 v5]|17=>.map (some Q)|18=>.int .i64 v4|19=>.string mg|20=>.bool eG
 |21=>.agg #[.string nm,.string ln,.int .u8 kd,.int .i64 v1,.int .i64 v2,.int .i64 v3,.int .i64 v5,.int .i64 v4,.bool eG]|23=>.int .i64 0|_=>undef
theorem sQ:aO.size=24:=rfl
theorem zk:vZ aO 73=true:=by kernel_rfl
theorem WZ:∃o,aO[0]? =some o∧o.op=.move (.tmp 4)∧o.dst=some 51:=⟨_,rfl,rfl,rfl⟩
theorem Xa:∃o,aO[1]? =some o∧o.op=.move (.tmp 7)∧o.dst=some 52:=⟨_,rfl,rfl,rfl⟩
theorem Xb:∃o,aO[2]? =some o∧o.op=.binOp .eql 9 (.tmp 52) (.const (.string ⟨#[117,115,116,97,114,32,32,0]⟩)) 9∧o.dst=some 53:=⟨_,rfl,rfl,rfl⟩
theorem Xc:∃o,aO[3]? =some o∧o.op=.call {callee:=.value (.func 105),args:=#[.tmp 51,.tmp 53],argTypes:=#[166,4]}∧o.dst=some 54:=⟨_,rfl,rfl,rfl⟩
theorem Xd:∃o,aO[4]? =some o∧o.op=.move (.tmp 4)∧o.dst=some 55:=⟨_,rfl,rfl,rfl⟩
theorem Xe:∃o,aO[5]? =some o∧o.op=.call {callee:=.value (.func 106),args:=#[.tmp 55,.const (.int .i64 8)],argTypes:=#[166,170]}∧o.dst=some 56:=⟨_,rfl,rfl,rfl⟩
theorem Xf:∃o,aO[6]? =some o∧o.op=.move (.tmp 4)∧o.dst=some 57:=⟨_,rfl,rfl,rfl⟩
theorem Xg:∃o,aO[7]? =some o∧o.op=.call {callee:=.value (.func 107),args:=#[.tmp 57],argTypes:=#[166]}∧o.dst=some 58:=⟨_,rfl,rfl,rfl⟩
theorem pop8:∃o,aO[8]? =some o∧o.op=.move (.tmp 8)∧o.dst=some 59:=⟨_,rfl,rfl,rfl⟩
theorem Xi:∃o,aO[9]? =some o∧o.op=.lookup 171 (.tmp 59) (.const (.int .i64 1)) false∧o.dst=some 60:=⟨_,rfl,rfl,rfl⟩
theorem S8:∃o,aO[10]? =some o∧o.op=.move (.tmp 8)∧o.dst=some 61:=⟨_,rfl,rfl,rfl⟩
theorem S9:∃o,aO[11]? =some o∧o.op=.lookup 171 (.tmp 61) (.const (.int .i64 2)) false∧o.dst=some 62:=⟨_,rfl,rfl,rfl⟩
theorem Ta:∃o,aO[12]? =some o∧o.op=.move (.tmp 8)∧o.dst=some 63:=⟨_,rfl,rfl,rfl⟩
theorem Tb:∃o,aO[13]? =some o∧o.op=.lookup 171 (.tmp 63) (.const (.int .i64 3)) false∧o.dst=some 64:=⟨_,rfl,rfl,rfl⟩
theorem Tc:∃o,aO[14]? =some o∧o.op=.move (.tmp 8)∧o.dst=some 65:=⟨_,rfl,rfl,rfl⟩
theorem Td:∃o,aO[15]? =some o∧o.op=.lookup 171 (.tmp 65) (.const (.int .i64 5)) false∧o.dst=some 66:=⟨_,rfl,rfl,rfl⟩
theorem Te:∃o,aO[16]? =some o∧o.op=.build 46 #[(0,.tmp 60),(1,.tmp 62),(2,.tmp 64),(3,.tmp 66)]∧o.dst=some 67:=⟨_,rfl,rfl,rfl⟩
theorem Tf:∃o,aO[17]? =some o∧o.op=.move (.tmp 8)∧o.dst=some 68:=⟨_,rfl,rfl,rfl⟩
theorem Tg:∃o,aO[18]? =some o∧o.op=.lookup 171 (.tmp 68) (.const (.int .i64 4)) false∧o.dst=some 69:=⟨_,rfl,rfl,rfl⟩
theorem Th:∃o,aO[19]? =some o∧o.op=.move (.tmp 7)∧o.dst=some 70:=⟨_,rfl,rfl,rfl⟩
theorem Ti:∃o,aO[20]? =some o∧o.op=.binOp .eql 9 (.tmp 70) (.const (.string ⟨#[117,115,116,97,114,32,32,0]⟩)) 9∧o.dst=some 71:=⟨_,rfl,rfl,rfl⟩
theorem Tj:∃o,aO[21]? =some o∧o.op=.build 66 #[(0,.tmp 54),(1,.tmp 56),(2,.tmp 58),(3,.tmp 67),(4,.tmp 69),(5,.tmp 71)]∧o.dst=some 72:=⟨_,rfl,rfl,rfl⟩
theorem Tk:∃o,aO[22]? =some o∧o.op=.store 66 (.tmp 2) (.tmp 72)∧o.dst=none:=⟨_,rfl,rfl,rfl⟩
theorem NC:∃o,aO[23]? =some o∧o.op=.assign (.const (.int .i64 0))∧o.dst=some 3:=⟨_,rfl,rfl,rfl⟩
theorem AO (w:World) (a b c d:Int):(Instr.build 46 #[(0,.int .i64 a),(1,.int .i64 b),(2,.int .i64 c),(3,.int .i64 d)]).run Tryz.prog w=.ok (.agg #[.int .i64 a,.int .i64 b,.int .i64 c,.int .i64 d]) w:=by kernel_rfl
theorem AM (w:World) (n l:ByteArray) (k a b c d s:Int) (g:Bool):(Instr.build 66 #[(0,.string n),(1,.string l),(2,.int .u8 k),(3,.agg #[.int .i64 a,.int .i64 b,.int .i64 c,.int .i64 d]),(4,.int .i64 s),(5,.bool g)]).run Tryz.prog w=.ok (.agg #[.string n,.string l,.int .u8 k,.int .i64 a,.int .i64 b,.int .i64 c,.int .i64 d,.int .i64 s,.bool g]) w:=by kernel_rfl
theorem G7 {o:Oper} {a:Act} {K:Act→World→Prop} {Q:Exit→Act→World→Prop} (p x:Operand) (ho:o.op=.store 66 p x) (g:Nat) (hp:a.eval p=.pointer (some ⟨g,0,none⟩)) (n l:ByteArray) (k m u i t s:Int) (b:Bool)
 (hx:a.eval x=.agg #[.string n,.string l,.int .u8 k,.int .i64 m,.int .i64 u,.int .i64 i,.int .i64 t,.int .i64 s,.bool b]) (hz:w.heap[g]? =some (.cells gj 66 (0,0)))
 (h:∀w',w'.heap[g]? =some (.cells #[.string n,.string l,.int .u8 k,.int .i64 m,.int .i64 u,.int .i64 i,.int .i64 t,.int .i64 s,.bool b] 66 (0,0))→Kept (aw g) w w'→K (a.put o.dst undef) w'):Oper.wp Tryz.prog o a w K Q:=by
 have c0:=bZ hz;have f0:=eO hz;have A:=ml hz;have D:=qa (Kept.refl (aw g) w);unfold gj at c0;clear hz
 have B:(execOp a.eval o).run Tryz.prog w=.ok .skip (((((((((w.setCell ⟨g,0,none⟩ (.string n)).setCell ⟨g,1,none⟩ (.string l)).setCell ⟨g,2,none⟩ (.int .u8 k)).setCell ⟨g,3,none⟩ (.int .i64 m)).setCell ⟨g,4,none⟩ (.int .i64 u)).setCell ⟨g,5,none⟩ (.int .i64 i)).setCell ⟨g,6,none⟩ (.int .i64 t)).setCell ⟨g,7,none⟩ (.int .i64 s)).setCell ⟨g,8,none⟩ (.bool b)):=by
  generalize a.eval=ev at hp hx;simp[go_sem,execOp,ho,hp,hx,c0,f0,Result.andThen]
 unfold Oper.wp;rw[B,Oper.upon_skip];exact h _ (A _ _ _ _ _ _ _ _ _) (D _ _ _ _ _ _ _ _ _)
theorem oB {Q':Exit→Act→World→Prop} {a0:Act} {w3:World} (g lo B Q:Nat) (r:Nat→Nat) (own:Nat→List UInt8) (mg:ByteArray) (eG:Bool) (v1 v2 v3 v4 v5:Int)
 (hsz:73≤a0.tmps.size) (h2:a0.eval (.tmp 2)=.pointer (some ⟨g,0,none⟩)) (h4:a0.eval (.tmp 4)=.map (some B)) (h7:a0.eval (.tmp 7)=.string mg) (h8:a0.eval (.tmp 8)=.map (some Q))
 (hP:aT w3 lo B r own) (hBg:B≠g) (hrg:∀i,i<11→r i≠g) (hz:w3.heap[g]? =some (.cells gj 66 (0,0)))
 (LY:∀w',Kept (aw g) w3 w'→(Instr.lookup 171 (.map (some Q)) (.int .i64 1) false).run Tryz.prog w'=.ok (.int .i64 v1) w'∧(Instr.lookup 171 (.map (some Q)) (.int .i64 2) false).run Tryz.prog w'=.ok (.int .i64 v2) w'∧
  (Instr.lookup 171 (.map (some Q)) (.int .i64 3) false).run Tryz.prog w'=.ok (.int .i64 v3) w'∧(Instr.lookup 171 (.map (some Q)) (.int .i64 4) false).run Tryz.prog w'=.ok (.int .i64 v4) w'∧(Instr.lookup 171 (.map (some Q)) (.int .i64 5) false).run Tryz.prog w'=.ok (.int .i64 v5) w')
 (tT:(mg.toList==[117,115,116,97,114,32,32,0])=eG)
 (hQ:∀a' w',a'.defers=a0.defers→a'.eval (.tmp 2)=.pointer (some ⟨g,0,none⟩)→a'.eval (.tmp 3)=.int .i64 0→
  w'.heap[g]? =some (.cells #[.string (str (jX (aC (own 10)) (aC (own 0)) eG)),.string (str (aC (own 8))),.int .u8 ((uU (own 7)).toNat:Int),.int .i64 v1,.int .i64 v2,.int .i64 v3,.int .i64 v5,.int .i64 v4,.bool eG] 66 (0,0))→Kept (aw g) w3 w'→Q' .normal a' w'):
 wpAny Tryz.prog .any aO Q' aO.size (Array.replicate aO.size false) a0 w3.drew:=by
 have no:∀j,(Array.replicate aO.size false).getD j false=false:=fun j=>by
  rw[Array.getD_eq_getD_getElem?,Array.getElem?_replicate];split<;>rfl
 obtain⟨nm,Z⟩:∃nm,nm=str (jX (aC (own 10)) (aC (own 0)) eG):=⟨_,rfl⟩
 obtain⟨ln,Y⟩:∃ln,ln=str (aC (own 8)):=⟨_,rfl⟩
 obtain⟨kd,m⟩:∃kd:Int,kd=((uU (own 7)).toNat:Int):=⟨_,rfl⟩
 rw[←Z,←Y,←m]at hQ;obtain⟨C,f⟩:∃C:Array Value,C=#[.string nm,.string ln,.int .u8 kd,.int .i64 v1,.int .i64 v2,.int .i64 v3,.int .i64 v5,.int .i64 v4,.bool eG]:=⟨_,rfl⟩
 rw[←f]at hQ;refine CX (pV B Q mg nm ln eG kd v1 v2 v3 v4 v5) a0 (fun listed w=>Kept (aw g) w3 w∧w.heap[g]? =some (.cells (if listed.getD 22 false=true then C else gj) 66 (0,0))) 73 zk hsz ?_ ?_ ⟨(Kept.refl _ w3).drew,by rw[no];exact hz⟩
 ·intro listed a w j o h H l I
  have c:=bj l;obtain⟨hk,O⟩:=h.wd
  have cw:∀w',j≠22→Kept af w w'→Kept (aw g) w3 w'∧w'.heap[g]? =some (.cells (if(listed.setIfInBounds j true).getD 22 false=true then C else gj) 66 (0,0)):=fun w' X L=>by
   rw[ag c,if_neg (Ne.symm X)];exact⟨hk.trans (L.dD _),L.some_ O id⟩
  have p:j<24:=by
   have:=(Array.getElem?_eq_some_iff.1 H).1
   rwa [sQ]at this
  have N:aT w lo B r own:=hP.kept hk hBg hrg;obtain⟨y,z,l3,l4,l5⟩:=LY w hk;have same:∀{j':Nat} {E:Oper},aO[j']? =some E→j=j'→E=o:=fun {j' E} h' e=>by subst e;exact Option.some.inj (h'.symm.trans H)
  rcases(show j=0∨j=1∨j=2∨j=3∨j=4∨j=5∨j=6∨j=7∨j=8∨j=9∨j=10∨j=11∨j=12∨j=13∨j=14∨j=15∨j=16∨j=17∨j=18∨j=19∨j=20∨j=21∨j=22∨j=23 by omega)with rfl|rfl|rfl|rfl|rfl|rfl|rfl|rfl|rfl|rfl|rfl|rfl|rfl|rfl|rfl|rfl|rfl|rfl|rfl|rfl|rfl|rfl|rfl|rfl
  ·obtain⟨E,A,D,G⟩:=WZ
   obtain rfl:=same A rfl;exact wp_move _ _ (Or.inl D) ((h.old (t:=4) (by kernel_rfl)).trans h4) ⟨rfl,cw w (by decide) (Kept.refl _ _)⟩
  ·obtain⟨E,A,D,G⟩:=Xa
   obtain rfl:=same A rfl;exact wp_move _ _ (Or.inl D) ((h.old (t:=7) (by kernel_rfl)).trans h7) ⟨rfl,cw w (by decide) (Kept.refl _ _)⟩
  ·obtain⟨E,A,D,G⟩:=Xb
   obtain rfl:=same A rfl;have e:=(h.get H I (i:=1) (d:=52) (by kernel_rfl) rfl)
   refine dr (.bool eG) ?_ ⟨rfl,cw w (by decide) (Kept.refl _ _)⟩;have e:a.eval (.tmp 52)=.string mg:=e;have U:a.eval (.const (.string ⟨#[117,115,116,97,114,32,32,0]⟩))=.string ⟨#[117,115,116,97,114,32,32,0]⟩:=rfl;generalize a.eval=ev at e U⊢;simp[go_sem,execOp,D,e,U,tT]
  ·obtain⟨E,A,D,G⟩:=Xc
   obtain rfl:=same A rfl;have J:a.eval (.tmp 51)=.map (some B):=(h.get H I (i:=0) (d:=51) (by kernel_rfl) rfl)
   have M:a.eval (.tmp 53)=.bool eG:=(h.get H I (i:=2) (d:=53) (by kernel_rfl) rfl)
   refine oL _ _ _ D #[.map (some B),.bool eG] (by simp[J,M]) (enters_of Tryz.func105 (by kernel_rfl) rfl) (.string nm) (fun w'=>Kept af w w') ?_ (fun w' L=>⟨rfl,cw w' (by decide) L⟩);rw[Z];exact JR lo B r own eG w N
  ·obtain⟨E,A,D,G⟩:=Xd
   obtain rfl:=same A rfl;exact wp_move _ _ (Or.inl D) ((h.old (t:=4) (by kernel_rfl)).trans h4) ⟨rfl,cw w (by decide) (Kept.refl _ _)⟩
  ·obtain⟨E,A,D,G⟩:=Xe
   obtain rfl:=same A rfl;have J:a.eval (.tmp 55)=.map (some B):=(h.get H I (i:=4) (d:=55) (by kernel_rfl) rfl)
   refine oL _ _ _ D #[.map (some B),.int .i64 8] (by simp[J,IG]) (enters_of Tryz.func106 (by kernel_rfl) rfl) (.string ln) (fun w'=>Kept af w w') ?_ (fun w' L=>⟨rfl,cw w' (by decide) L⟩);rw[Y];exact fv lo B r own 8 w (by omega) N
  ·obtain⟨E,A,D,G⟩:=Xf
   obtain rfl:=same A rfl;exact wp_move _ _ (Or.inl D) ((h.old (t:=4) (by kernel_rfl)).trans h4) ⟨rfl,cw w (by decide) (Kept.refl _ _)⟩
  ·obtain⟨E,A,D,G⟩:=Xg
   obtain rfl:=same A rfl;have J:a.eval (.tmp 57)=.map (some B):=(h.get H I (i:=6) (d:=57) (by kernel_rfl) rfl)
   refine oL _ _ _ D #[.map (some B)] (by simp[J]) (enters_of Tryz.func107 (by kernel_rfl) rfl) (.int .u8 kd) (fun w'=>Kept af w w') ?_ (fun w' L=>⟨rfl,cw w' (by decide) L⟩);rw[m];refine(Jy lo B r own w N).mono ?_;rintro e w' ⟨rfl,rfl⟩;exact⟨rfl,Kept.refl _ _⟩
  ·obtain⟨E,A,D,G⟩:=pop8
   obtain rfl:=same A rfl;exact wp_move _ _ (Or.inl D) ((h.old (t:=8) (by kernel_rfl)).trans h8) ⟨rfl,cw w (by decide) (Kept.refl _ _)⟩
  ·obtain⟨E,A,D,G⟩:=Xi
   obtain rfl:=same A rfl;exact mr _ _ _ D _ _ _ (h.get H I (i:=8) (d:=59) (by kernel_rfl) rfl) rfl y ⟨rfl,cw w (by decide) (Kept.refl _ _)⟩
  ·obtain⟨E,A,D,G⟩:=S8
   obtain rfl:=same A rfl;exact wp_move _ _ (Or.inl D) ((h.old (t:=8) (by kernel_rfl)).trans h8) ⟨rfl,cw w (by decide) (Kept.refl _ _)⟩
  ·obtain⟨E,A,D,G⟩:=S9
   obtain rfl:=same A rfl;exact mr _ _ _ D _ _ _ (h.get H I (i:=10) (d:=61) (by kernel_rfl) rfl) rfl z ⟨rfl,cw w (by decide) (Kept.refl _ _)⟩
  ·obtain⟨E,A,D,G⟩:=Ta
   obtain rfl:=same A rfl;exact wp_move _ _ (Or.inl D) ((h.old (t:=8) (by kernel_rfl)).trans h8) ⟨rfl,cw w (by decide) (Kept.refl _ _)⟩
  ·obtain⟨E,A,D,G⟩:=Tb
   obtain rfl:=same A rfl;exact mr _ _ _ D _ _ _ (h.get H I (i:=12) (d:=63) (by kernel_rfl) rfl) rfl l3 ⟨rfl,cw w (by decide) (Kept.refl _ _)⟩
  ·obtain⟨E,A,D,G⟩:=Tc
   obtain rfl:=same A rfl;exact wp_move _ _ (Or.inl D) ((h.old (t:=8) (by kernel_rfl)).trans h8) ⟨rfl,cw w (by decide) (Kept.refl _ _)⟩
  ·obtain⟨E,A,D,G⟩:=Td
   obtain rfl:=same A rfl;exact mr _ _ _ D _ _ _ (h.get H I (i:=14) (d:=65) (by kernel_rfl) rfl) rfl l5 ⟨rfl,cw w (by decide) (Kept.refl _ _)⟩
  ·obtain⟨E,A,D,G⟩:=Te
   obtain rfl:=same A rfl;have J:=(h.get H I (i:=9) (d:=60) (by kernel_rfl) rfl)
   have M:=(h.get H I (i:=11) (d:=62) (by kernel_rfl) rfl)
   have R:=(h.get H I (i:=13) (d:=64) (by kernel_rfl) rfl)
   have T:=(h.get H I (i:=15) (d:=66) (by kernel_rfl) rfl)
   refine dr _ ?_ ⟨rfl,cw w (by decide) (Kept.refl _ _)⟩;have b:=AO w v1 v2 v3 v5;have J:a.eval (.tmp 60)=.int .i64 v1:=J;have M:a.eval (.tmp 62)=.int .i64 v2:=M;have R:a.eval (.tmp 64)=.int .i64 v3:=R;have T:a.eval (.tmp 66)=.int .i64 v5:=T;simp[execOp,D,J,M,R,T,b,Result.andThen,pV]
  ·obtain⟨E,A,D,G⟩:=Tf
   obtain rfl:=same A rfl;exact wp_move _ _ (Or.inl D) ((h.old (t:=8) (by kernel_rfl)).trans h8) ⟨rfl,cw w (by decide) (Kept.refl _ _)⟩
  ·obtain⟨E,A,D,G⟩:=Tg
   obtain rfl:=same A rfl;exact mr _ _ _ D _ _ _ (h.get H I (i:=17) (d:=68) (by kernel_rfl) rfl) rfl l4 ⟨rfl,cw w (by decide) (Kept.refl _ _)⟩
  ·obtain⟨E,A,D,G⟩:=Th
   obtain rfl:=same A rfl;exact wp_move _ _ (Or.inl D) ((h.old (t:=7) (by kernel_rfl)).trans h7) ⟨rfl,cw w (by decide) (Kept.refl _ _)⟩
  ·obtain⟨E,A,D,G⟩:=Ti
   obtain rfl:=same A rfl;have e:=(h.get H I (i:=19) (d:=70) (by kernel_rfl) rfl)
   refine dr (.bool eG) ?_ ⟨rfl,cw w (by decide) (Kept.refl _ _)⟩;have e:a.eval (.tmp 70)=.string mg:=e;have U:a.eval (.const (.string ⟨#[117,115,116,97,114,32,32,0]⟩))=.string ⟨#[117,115,116,97,114,32,32,0]⟩:=rfl;generalize a.eval=ev at e U⊢;simp[go_sem,execOp,D,e,U,tT]
  ·obtain⟨E,A,D,G⟩:=Tj
   obtain rfl:=same A rfl;have J:a.eval (.tmp 54)=.string nm:=(h.get H I (i:=3) (d:=54) (by kernel_rfl) rfl)
   have M:a.eval (.tmp 56)=.string ln:=(h.get H I (i:=5) (d:=56) (by kernel_rfl) rfl)
   have R:a.eval (.tmp 58)=.int .u8 kd:=(h.get H I (i:=7) (d:=58) (by kernel_rfl) rfl)
   have T:a.eval (.tmp 67)=.agg #[.int .i64 v1,.int .i64 v2,.int .i64 v3,.int .i64 v5]:=(h.get H I (i:=16) (d:=67) (by kernel_rfl) rfl)
   have q:a.eval (.tmp 69)=.int .i64 v4:=(h.get H I (i:=18) (d:=69) (by kernel_rfl) rfl)
   have u:a.eval (.tmp 71)=.bool eG:=(h.get H I (i:=20) (d:=71) (by kernel_rfl) rfl)
   refine dr _ ?_ ⟨rfl,cw w (by decide) (Kept.refl _ _)⟩;have b:=AM w nm ln kd v1 v2 v3 v5 v4 eG;simp[execOp,D,J,M,R,T,q,u,b,Result.andThen,pV]
  ·obtain⟨E,A,D,G⟩:=Tk
   obtain rfl:=same A rfl;have J:=(h.old (t:=2) (by kernel_rfl)).trans h2;have M:=(h.get H I (i:=21) (d:=72) (by kernel_rfl) rfl)
   have W:w.heap[g]? =some (.cells gj 66 (0,0)):=by rw[eQ l]at O;exact O
   refine G7 _ _ D g J nm ln kd v1 v2 v3 v5 v4 eG M W (fun w' lu L=>⟨rfl,hk.trans L,?_⟩);rw[ag c,if_pos rfl,if_pos rfl,f];exact lu
  ·obtain⟨E,A,D,G⟩:=NC
   obtain rfl:=same A rfl;exact wp_move _ _ (Or.inr D) rfl ⟨rfl,cw w (by decide) (Kept.refl _ _)⟩
 ·intro listed a w h V
  have all:∀j,j<24→listed.getD j false=true:=fun j X=>V j (by rw[sQ];exact X)
  obtain⟨hk,O⟩:=h.wd;rw[all 22 (by omega),if_pos rfl]at O;obtain⟨E,A,_,G⟩:=NC;exact hQ a w h.df ((h.old (t:=2) (by kernel_rfl)).trans h2) (h.done 23 E 3 A G (all 23 (by omega))) O hk
end Head
namespace Head
open Hp Go.Proofs.YtdhibldkldlfpaaGreatDoor.Mp Fp Go.Proofs.YtdhibldkldlfpaaGreatDoor.Field
theorem fT (p:Option Addr) (n c:Nat) (bs:List UInt8) (w:World) (hn:bs.length=n) (hc:n≤c) (sb:c≤maxLen) (h:cj w p n bs):
 Calls Tryz.prog 74 #[.slice p n c] w fun e w'=>e=.returned (jQ (aU bs))∧Kept af w w':=by
 have hm:c≤9223372036854775807:=by unfold maxLen at sb;omega
 have fl:=fK;have L:=Qh hn;have H:=Qh h;clear h hn
 by_cases Oz:n=512
 ·subst Oz
  obtain⟨g,z⟩:∃g,g=w.heap.size:=⟨_,rfl⟩
  obtain⟨R,u⟩:∃R,R=w.alloc (.cells #[.string ⟨#[]⟩,.string ⟨#[]⟩,.int .u8 0,.int .i64 0,.int .i64 0,.int .i64 0,.int .i64 0,.int .i64 0,.bool false] 66):=⟨_,rfl⟩
  have I:Hid (Kept af w R):=Qh (by rw[u];exact(Kept.refl af w).alloc _);have Ec:Hid (R.heap[g]? =some (.cells gj 66 (0,0))):=Qh (by rw[u,z];exact heap_alloc_new w _);have Xq:Hid (g<R.heap.size):=Qh (Array.getElem?_eq_some_iff.1 Ec.out).1;have QR:Hid (g=w.heap.size):=Qh z;have T:Hid (w.heap.size≤g):=Qh (by omega)
  go_enter Tryz.func74,Tryz.ntmps74
  go_wp2_with fail
  rw[←u,←z];clear u z;refine(Kc p c bs R L.out hc (by unfold maxLen;omega) (H.out.kept I.out (fun _ _ _=>id))).mono ?_;obtain⟨M,Wa⟩:∃M,M=R.heap.size:=⟨_,rfl⟩
  have KJ:Hid (M=R.heap.size):=Qh Wa;rw[←Wa];clear Wa;rintro e w1 ⟨B,r,rfl,Vy,dV⟩;have Ee:=Qh Vy;have eY:=Qh dV;have lk6:(Instr.lookup 166 (.map (some B)) (.int .i64 6) false).run Tryz.prog w1=.ok (.agg #[.int .i64 148,.slice (some ⟨r 6,0,none⟩) 8 8]) w1:=Nz Vy 6 (by omega);clear Vy dV;go_wp2_with fail;refine(vo _ 8 8 (cH bs 6) w1 (Ee.out.fit 6) (Qk _) (by decide) (Ee.out.iZ (i:=6) (by omega))).mono ?_;rintro e w2 ⟨rfl,bI⟩;have cU:Kept af w1 w2:=Kept.aM bI _;have O:=Qh (Ee.out.cz cU);have N:=Qh (eY.out.trans cU);have D:=Qh (N.out.some_ Ec.out id);clear bI cU lk6;rw[lL bs 6 (by omega)]
  cases wR:aX (au bs 6)with
  |none=>
   have E:Hid (aU bs=(br,3)):=Qh (uP L.out (by rw[wR];simp));rw[ML,Mm];have c0:=bZ D.out;have f0:=eO D.out;unfold gj at c0;clear wR;go_wp2;refine bodyPost_ret (gG rfl _ _ g _ rfl rfl ⟨#[]⟩ ⟨#[]⟩ 0 0 0 0 0 0 false (ml D.out _ _ _ _ _ _ _ _ _)) rfl ?_;rw[E.out]
   exact⟨rfl,(I.out.trans N.out).then (qa (Kept.refl (aw g) _) _ _ _ _ _ _ _ _ _) (fun i hi=>Or.inl (by
    have h1:i=g:=hi;rw[h1]
    exact T.out))⟩
  |some sm=>
   rw[MM,Mn];have lr:=vH (bs:=bs);have Wz:=iV bs 512;have WJ:=oJ bs 512;have hpf:=iV (au bs 6) 8;obtain⟨X,hX⟩:∃X:Int,X=(dj bs 512:Nat):=⟨_,rfl⟩
   have hS:((aZ bs 512:Nat):Int) - (aZ (cH bs 6) 8:Nat)+256=X:=by
    rw[lL bs 6 (by omega),hX];omega
   have HS:=Qh hS;have HX:=Qh hX;have Q7:=Qh wR;have M8:cj w2 p 512 bs:=(H.out.kept I.out (fun _ _ _=>id)).kept N.out (fun _ _ _=>id);have cf:=Qh M8;clear lr Wz WJ hpf hX hS wR M8
   by_cases WH:sm=X
   ·subst WH
    have d:Hid (aX (au bs 6)=some (dj bs 512:Int)):=Qh (by rw[Q7.out,HX.out]);have hbX:(sm==sm)=true:=by simp
    go_wp2_with fail
    refine(xC M B r (cH bs) p 512 c bs w2 (by omega) cf.out O.out).mono ?_;rintro e w2' ⟨rfl,rfl⟩;rw[HS.out];have lk9:(Instr.lookup 166 (.map (some B)) (.int .i64 9) false).run Tryz.prog w2=.ok (.agg #[.int .i64 257,.slice (some ⟨r 9,0,none⟩) 8 8]) w2:=Nz O.out 9 (by omega)
    have XP:(convert 26 9 (.slice (some ⟨r 9,0,none⟩) 8 8)).run Tryz.prog w2=.ok (.string (str (au bs 9))) w2:=by
     have:=cK (P:=Tryz.prog) (O.out.iZ (i:=9) (by omega)) (O.out.fit 9) 26 5 9 Tryz.underlying26 Tryz.underlying5 Tryz.underlying9 8;rw[lL bs 9 (by omega)]at this;exact this
    by_cases hu:au bs 9=dO
    ·have q:Hid (au bs 9=dO∨au bs 9=qz):=Qh (Or.inl hu)
     have Pd:=hu;rw[hu,vL]at XP;clear hu;have b:Hid (pU bs=false):=Qh (by rw[pU,Pd];decide);go_wp2_with fail;refine(qe M B r (cH bs) w2 O.out).mono ?_;intro e w3 m;obtain⟨A,(⟨t,Q,rfl,V⟩|⟨o,rfl⟩)⟩:=m
     ·have HT:Hid (aU bs=(ij bs,0)):=Qh (rY L.out d.out q.out (by rw[←kt];exact t))
      have W:=Qh (N.out.trans A);have G:=Qh (A.some_ D.out id);have Y:=Qh (O.out.cz A);have Q9:=Qh V
      have f:Q≠g∧B≠g∧∀i,i<11→r i≠g:=by
       have l:=Xq.out;have m:=KJ.out;refine⟨fun e=>?_,fun e=>?_,fun i hi e=>?_⟩
       ·obtain⟨es,clock,y,_⟩:=V
        have h1:=G.out;rw[←e,y]at h1
        cases h1
       ·have h1:=Y.out.lo.1
        omega
       ·have h1:=Y.out.lo.2 i hi
        omega
      have U:=Qh f;clear f
      have NJ:Hid (∀w',Kept (aw g) w3 w'→
       (Instr.lookup 171 (.map (some Q)) (.int .i64 1) false).run Tryz.prog w'=.ok (.int .i64 (dn bs 1)) w'∧
       (Instr.lookup 171 (.map (some Q)) (.int .i64 2) false).run Tryz.prog w'=.ok (.int .i64 (dn bs 2)) w'∧
       (Instr.lookup 171 (.map (some Q)) (.int .i64 3) false).run Tryz.prog w'=.ok (.int .i64 (dn bs 3)) w'∧
       (Instr.lookup 171 (.map (some Q)) (.int .i64 4) false).run Tryz.prog w'=.ok (.int .i64 (dn bs 4)) w'∧
       (Instr.lookup 171 (.map (some Q)) (.int .i64 5) false).run Tryz.prog w'=.ok (.int .i64 (dn bs 5)) w'):=Qh (fun w' hk=>by
       have hq:=Q9.out.kept hk U.out.1
       have J:∀i,1≤i→i≤5→(Instr.lookup 171 (.map (some Q)) (jT i) false).run Tryz.prog w'=.ok (.int .i64 (dn bs i)) w':=fun i h1 l=>
        hq.look (P:=Tryz.prog) Tryz.underlying171 Tryz.underlying170 (by rw[ow _ h1 l,lL bs i (by omega)];rfl)
       exact⟨J 1 (by omega) (by omega),J 2 (by omega) (by omega),J 3 (by omega) (by omega),J 4 (by omega) (by omega),J 5 (by omega) (by omega)⟩)
      clear A t V;go_wp2_with fail;refine wp_region_any (by kernel_rfl) (oB (w3:=w3) g M B Q r (cH bs) ⟨#[117,115,116,97,114,0,48,48]⟩ false (dn bs 1) (dn bs 2) (dn bs 3) (dn bs 4) (dn bs 5) (show 73≤73 from Qk 73) rfl rfl rfl rfl Y.out U.out.2.1 U.out.2.2 G.out (fun w' hk=>NJ.out w' hk) (by rw[←vL,ax];decide) ?_);intro a' w' VX qA M1 lu jb;have hT:(ij bs).eG=false:=b.out
      have NN:Hid (jQ (aU bs)=.tuple #[.agg #[.string (str (jX (aC (cH bs 10)) (aC (cH bs 0)) false)),.string (str (aC (cH bs 8))),.int .u8 ((uU (cH bs 7)).toNat:Int),.int .i64 (dn bs 1),.int .i64 (dn bs 2),.int .i64 (dn bs 3),.int .i64 (dn bs 5),.int .i64 (dn bs 4),.bool false],.int .i64 0]):=Qh (by
       rw[HT.out];simp only[jQ,aa,ij,b.out]
       rfl)
      simp only[Exit.then]
      apply_assumption
      go_wp2;refine bodyPost_ret (gG rfl _ _ g (.int .i64 0) qA M1 _ _ _ _ _ _ _ _ _ lu) VX ?_;rw[NN.out]
      exact⟨rfl,(I.out.trans W.out).then jb (fun i hi=>Or.inl (by
       have h1:i=g:=hi;rw[h1]
       exact T.out))⟩
     ·have E:Hid (aU bs=(br,4)):=Qh (uO L.out d.out q.out (by rw[←kt];exact o))
      have W:=Qh (N.out.trans A);have G:=Qh (A.some_ D.out id);have c0:=bZ G.out;have f0:=eO G.out;unfold gj at c0;clear A o;go_wp2;refine bodyPost_ret (gG rfl _ _ g _ rfl rfl ⟨#[]⟩ ⟨#[]⟩ 0 0 0 0 0 0 false (ml G.out _ _ _ _ _ _ _ _ _)) rfl ?_;rw[E.out]
      exact⟨rfl,(I.out.trans W.out).then (qa (Kept.refl (aw g) _) _ _ _ _ _ _ _ _ _) (fun i hi=>Or.inl (by
       have h1:i=g:=hi;rw[h1]
       exact T.out))⟩
    ·by_cases Z:au bs 9=qz
     ·have q:Hid (au bs 9=dO∨au bs 9=qz):=Qh (Or.inr Z)
      have Pd:=Z;rw[Z,Dr]at XP;clear hu Z;have b:Hid (pU bs=true):=Qh (by rw[pU,Pd];decide);go_wp2_with fail;refine(qe M B r (cH bs) w2 O.out).mono ?_;intro e w3 m;obtain⟨A,(⟨t,Q,rfl,V⟩|⟨o,rfl⟩)⟩:=m
      ·have HT:Hid (aU bs=(ij bs,0)):=Qh (rY L.out d.out q.out (by rw[←kt];exact t))
       have W:=Qh (N.out.trans A);have G:=Qh (A.some_ D.out id);have Y:=Qh (O.out.cz A);have Q9:=Qh V
       have f:Q≠g∧B≠g∧∀i,i<11→r i≠g:=by
        have l:=Xq.out;have m:=KJ.out;refine⟨fun e=>?_,fun e=>?_,fun i hi e=>?_⟩
        ·obtain⟨es,clock,y,_⟩:=V
         have h1:=G.out;rw[←e,y]at h1
         cases h1
        ·have h1:=Y.out.lo.1
         omega
        ·have h1:=Y.out.lo.2 i hi
         omega
       have U:=Qh f;clear f
       have NJ:Hid (∀w',Kept (aw g) w3 w'→
        (Instr.lookup 171 (.map (some Q)) (.int .i64 1) false).run Tryz.prog w'=.ok (.int .i64 (dn bs 1)) w'∧
        (Instr.lookup 171 (.map (some Q)) (.int .i64 2) false).run Tryz.prog w'=.ok (.int .i64 (dn bs 2)) w'∧
        (Instr.lookup 171 (.map (some Q)) (.int .i64 3) false).run Tryz.prog w'=.ok (.int .i64 (dn bs 3)) w'∧
        (Instr.lookup 171 (.map (some Q)) (.int .i64 4) false).run Tryz.prog w'=.ok (.int .i64 (dn bs 4)) w'∧
        (Instr.lookup 171 (.map (some Q)) (.int .i64 5) false).run Tryz.prog w'=.ok (.int .i64 (dn bs 5)) w'):=Qh (fun w' hk=>by
        have hq:=Q9.out.kept hk U.out.1
        have J:∀i,1≤i→i≤5→(Instr.lookup 171 (.map (some Q)) (jT i) false).run Tryz.prog w'=.ok (.int .i64 (dn bs i)) w':=fun i h1 l=>
         hq.look (P:=Tryz.prog) Tryz.underlying171 Tryz.underlying170 (by rw[ow _ h1 l,lL bs i (by omega)];rfl)
        exact⟨J 1 (by omega) (by omega),J 2 (by omega) (by omega),J 3 (by omega) (by omega),J 4 (by omega) (by omega),J 5 (by omega) (by omega)⟩)
       clear A t V;go_wp2_with fail;refine wp_region_any (by kernel_rfl) (oB (w3:=w3) g M B Q r (cH bs) ⟨#[117,115,116,97,114,32,32,0]⟩ true (dn bs 1) (dn bs 2) (dn bs 3) (dn bs 4) (dn bs 5) (show 73≤73 from Qk 73) rfl rfl rfl rfl Y.out U.out.2.1 U.out.2.2 G.out (fun w' hk=>NJ.out w' hk) (by rw[←Dr,ax];decide) ?_);intro a' w' VX qA M1 lu jb;have hT:(ij bs).eG=true:=b.out
       have NN:Hid (jQ (aU bs)=.tuple #[.agg #[.string (str (jX (aC (cH bs 10)) (aC (cH bs 0)) true)),.string (str (aC (cH bs 8))),.int .u8 ((uU (cH bs 7)).toNat:Int),.int .i64 (dn bs 1),.int .i64 (dn bs 2),.int .i64 (dn bs 3),.int .i64 (dn bs 5),.int .i64 (dn bs 4),.bool true],.int .i64 0]):=Qh (by
        rw[HT.out];simp only[jQ,aa,ij,b.out]
        rfl)
       simp only[Exit.then]
       apply_assumption
       go_wp2;refine bodyPost_ret (gG rfl _ _ g (.int .i64 0) qA M1 _ _ _ _ _ _ _ _ _ lu) VX ?_;rw[NN.out]
       exact⟨rfl,(I.out.trans W.out).then jb (fun i hi=>Or.inl (by
        have h1:i=g:=hi;rw[h1]
        exact T.out))⟩
      ·have E:Hid (aU bs=(br,4)):=Qh (uO L.out d.out q.out (by rw[←kt];exact o))
       have W:=Qh (N.out.trans A);have G:=Qh (A.some_ D.out id);have c0:=bZ G.out;have f0:=eO G.out;unfold gj at c0;clear A o;go_wp2;refine bodyPost_ret (gG rfl _ _ g _ rfl rfl ⟨#[]⟩ ⟨#[]⟩ 0 0 0 0 0 0 false (ml G.out _ _ _ _ _ _ _ _ _)) rfl ?_;rw[E.out]
       exact⟨rfl,(I.out.trans W.out).then (qa (Kept.refl (aw g) _) _ _ _ _ _ _ _ _ _) (fun i hi=>Or.inl (by
        have h1:i=g:=hi;rw[h1]
        exact T.out))⟩
     ·have E:Hid (aU bs=(br,9)):=Qh (Bp L.out d.out ⟨hu,Z⟩)
      have q1:((str (au bs 9)).toList==[117,115,116,97,114,0,48,48])=false:=by rw[ax];exact beq_eq_false_iff_ne.2 hu
      have q2:((str (au bs 9)).toList==[117,115,116,97,114,32,32,0])=false:=by rw[ax];exact beq_eq_false_iff_ne.2 Z
      have c0:=bZ D.out;have f0:=eO D.out;unfold gj at c0;clear hu Z;go_wp2;refine bodyPost_ret (gG rfl _ _ g _ rfl rfl ⟨#[]⟩ ⟨#[]⟩ 0 0 0 0 0 0 false (ml D.out _ _ _ _ _ _ _ _ _)) rfl ?_;rw[E.out]
      exact⟨rfl,(I.out.trans N.out).then (qa (Kept.refl (aw g) _) _ _ _ _ _ _ _ _ _) (fun i hi=>Or.inl (by
       have h1:i=g:=hi;rw[h1]
       exact T.out))⟩
   ·have E:Hid (aU bs=(br,3)):=Qh (uP L.out (by
     rw[Q7.out,←HX.out];intro e
     exact WH (Option.some.inj e)))
    have hbX:(sm==X)=false:=by simpa using WH
    have c0:=bZ D.out;have f0:=eO D.out;unfold gj at c0;go_wp2_with fail;refine(xC M B r (cH bs) p 512 c bs w2 (by omega) cf.out O.out).mono ?_;rintro e w2' ⟨rfl,rfl⟩;rw[HS.out];go_wp2;refine bodyPost_ret (gG rfl _ _ g _ rfl rfl ⟨#[]⟩ ⟨#[]⟩ 0 0 0 0 0 0 false (ml D.out _ _ _ _ _ _ _ _ _)) rfl ?_;rw[E.out]
    exact⟨rfl,(I.out.trans N.out).then (qa (Kept.refl (aw g) _) _ _ _ _ _ _ _ _ _) (fun i hi=>Or.inl (by
     have h1:i=g:=hi;rw[h1]
     exact T.out))⟩
 ·have E:Hid (aU bs=(br,1)):=Qh (FF (by rw[L.out];exact Oz))
  have y:((n:Int)==512)=false:=by simp;omega
  have ey:Kept af w (w.alloc (.cells #[.string ⟨#[]⟩,.string ⟨#[]⟩,.int .u8 0,.int .i64 0,.int .i64 0,.int .i64 0,.int .i64 0,.int .i64 0,.bool false] 66)):=(Kept.refl af w).alloc _;have I:=Qh ey;clear ey
  go_enter Tryz.func74,Tryz.ntmps74
  go_wp2;refine bodyPost_ret (gG rfl _ _ w.heap.size _ rfl rfl ⟨#[]⟩ ⟨#[]⟩ 0 0 0 0 0 0 false (heap_alloc_new _ _)) rfl ?_;rw[E.out];exact⟨rfl,I.out⟩
end Head
end Go.Proofs.YtdhibldkldlfpaaGreatDoor
