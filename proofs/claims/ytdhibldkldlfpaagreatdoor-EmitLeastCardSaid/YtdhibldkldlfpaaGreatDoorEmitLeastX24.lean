/- Merged. -/
import Derived.Test.YtdhibldkldlfpaaGreatDoorEmitLeastX11
import Derived.Deep.RegionHeldLaw
import Derived.Laws.AppendOwnNone
import Derived.Test.YtdhibldkldlfpaaGreatDoorEmitLeastX21
import Derived.Test.YtdhibldkldlfpaaGreatDoorEmitLeastX20
namespace Go.Proofs.YtdhibldkldlfpaaGreatDoor
set_option linter.unusedVariables false
set_option maxHeartbeats 4000000
set_option maxRecDepth 100000
open Go.ChangeShapes Go.WideShapes Go.ChangeAt Go.RowKit Base bJ cn Go.Lib
variable {B g j:Nat} {v:Value} {w:World}
namespace Rec
open Path
variable {rs:List (List UInt8 × List UInt8)}
def dF (rs:List (List UInt8 × List UInt8)):List Value:=rs.flatMap fun r=>[.string (str r.1),.string (str r.2)]
theorem oA (rs:List (List UInt8 × List UInt8)):(dF rs).length=2*rs.length:=by
 induction rs with
 |nil=>rfl
 |cons r rs ih=>simp only[dF,List.flatMap_cons,Qf,List.length_cons,List.length_nil]at ih⊢;omega
theorem Cf (rs:List (List UInt8 × List UInt8)) (k v:List UInt8):dF (rs++[(k,v)])=dF rs++[.string (str k),.string (str v)]:=by simp[dF]
theorem vA (rs:List (List UInt8 × List UInt8)):∀i,i<rs.length→(dF rs)[2*i]? =some (.string (str (rs.getD i ([],[])).1))∧(dF rs)[2*i+1]? =some (.string (str (rs.getD i ([],[])).2)):=by
 induction rs with
 |nil=>intro i h;simp at h
 |cons r rs ih=>
  intro i h
  cases i with
  |zero=>exact⟨rfl,rfl⟩
  |succ i=>
   have:=ih i (by simpa using h);have e:dF (r::rs)=.string (str r.1)::.string (str r.2)::dF rs:=rfl;rw[e,show 2*(i+1)=2*i+1+1 by omega]
   simpa using this
def cd (w:World) (p:Option Addr) (n:Nat) (rs:List (List UInt8 × List UInt8)):Prop:=
 rs.length=n∧(0<n→∃b o,p=some ⟨b,o,none⟩∧b<w.heap.size∧∀i,i<n→w.cell? ⟨b,o+2*i,none⟩=some (.string (str (rs.getD i ([],[])).1))∧w.cell? ⟨b,o+2*i+1,none⟩=some (.string (str (rs.getD i ([],[])).2)))
theorem cd.below {w':World} {p:Option Addr} {n:Nat} (h:cd w p n rs) (hb:Below w.heap.size w w'):cd w' p n rs:=by
 refine⟨h.1,fun B=>?_⟩;obtain⟨b,o,rfl,A,hc⟩:=h.2 B;refine⟨b,o,rfl,Nat.lt_of_lt_of_le A hb.size,fun i hi=>⟨?_,?_⟩⟩
 ·rw[hb.cell (p:=⟨b,o+2*i,none⟩) A];exact(hc i hi).1
 ·rw[hb.cell (p:=⟨b,o+2*i+1,none⟩) A];exact(hc i hi).2
theorem mj {base:Nat} {e:TypeId} (h:w.ownsRow base e 2 v rs.length (dF rs)):∃p c,v=.slice p rs.length c∧rs.length≤c∧c≤maxLen∧cd w p rs.length rs:=by
 rcases h.2 with⟨rfl,A⟩|⟨g,cap,cur,rfl,hb,hg,hn,hc,hs,ht⟩
 ·exact⟨none,0,by rw[A],by omega,by decide,rfl,fun h=>by omega⟩
 ·refine⟨some ⟨g,0,none⟩,cap,rfl,hn,hc,rfl,fun A=>⟨g,0,rfl,(Array.getElem?_eq_some_iff.1 hg).1,fun i hi=>?_⟩⟩
  have get:∀j,j<2*rs.length→w.cell? ⟨g,j,none⟩=(dF rs)[j]? :=fun j B=>by
   unfold World.cell?;rw[hg,←ht,List.getElem?_take,if_pos (by omega)];simp
  obtain⟨g1,g2⟩:=vA rs i hi;rw[Nat.zero_add];exact⟨by rw[get _ (by omega)];exact g1,by rw[get _ (by omega)];exact g2⟩
theorem EO:(Tryz.prog.info? 121).map (fun i=>(i.zero,i.size,i.bytes))=some (some (.agg #[.string ⟨#[]⟩,.string ⟨#[]⟩]),2,32):=by kernel_rfl
theorem Em (l:List UInt8):∀k,k≤l.length→(∀j,j<k→bk (l.getD j 0)=true)→(k=l.length∨bk (l.getD k 0)=false)→gm l=k:=by
 unfold gm
 induction l with
 |nil=>intro k h _ _;simp at h;simp[h]
 |cons b l ih=>
  intro k hk hd he
  cases k with
  |zero=>
   rcases he with h|h
   ·simp at h
   ·rw[List.takeWhile_cons,show bk b=false from h];rfl
  |succ k=>
   have A:bk b=true:=hd 0 (by omega);rw[List.takeWhile_cons,A,if_pos rfl,List.length_cons,ih k (by simpa using hk) (fun j B=>by simpa using hd (j+1) (by omega)) (by simpa using he)]
theorem Rj (l:List UInt8):∀b∈l.takeWhile bk,bk b=true:=by
 induction l with
 |nil=>simp
 |cons c l ih=>
  intro b A;rw[List.takeWhile_cons]at A;split at A
  ·next h=>
   rcases List.mem_cons.1 A with rfl|h1
   ·exact h
   ·exact ih b h1
  ·cases A
theorem Gp (l:List UInt8):gm l≤l.length∧∀b∈l.take (gm l),bk b=true:=by
 unfold gm;have B:l.takeWhile bk<+:l:=List.takeWhile_prefix _;refine⟨B.length_le,fun b A=>?_⟩;rw[←List.prefix_iff_eq_take.1 B]at A;exact Rj l b A
end Rec
namespace Rec
theorem GD (a b:List (List UInt8 × List UInt8)):dF (a++b)=dF a++dF b:=by simp[dF]
theorem GF (rs:List (List UInt8 × List UInt8)):∀u∈dF rs,u.oneCell'=true:=by
 intro u hu;obtain⟨r,_,hr⟩:=List.mem_flatMap.1 hu;rcases List.mem_cons.1 hr with rfl|hr
 ·rfl
 ·rcases List.mem_cons.1 hr with rfl|hr
  ·rfl
  ·cases hr
theorem yR {P:Program} {ops:Array Oper} {rest:List Oper} {o:Oper} {a:Act} {Q:Exit→Act→World→Prop} (rH:o.guard=none) (s x:Operand) (t:TypeId)
 (ho:o.op=.call {callee:=.builtin .append,args:=#[s,x],argTypes:=#[t,t]})
 (base:Nat) (e:TypeId) (i:TypeInfo) (z:Value) (ht:P.underlying t=some (.slice e)) (hi:P.info? e=some i) (hz:i.zero=some z) (eO:i.size=2) (uu:i.bytes=32) (Rb:z.cells.size=2)
 (v:Value) (n:Nat) (xs:List (List UInt8 × List UInt8)) (hs:a.eval s=v) (bh:w.ownsRow base e 2 v n (dF xs))
 (p:Option Addr) (m c:Nat) (rs:List (List UInt8 × List UInt8)) (hx:a.eval x=.slice p m c) (hb:cd w p m rs) (lQ:(n+m)*32≤140737488355328) (ft:base≤w.heap.size)
 (h:∀v' w',w'.ownsRow base e 2 v' (n+m) (dF (xs++rs))→w.grownBy w' v.ownBlock→wpList P ops Q rest (a.put o.dst v') w'):wpList P ops Q (o::rest) a w:=by
 have hl:=hb.1;rcases p with _|ad
 ·have hm:m=0:=by
   rcases Nat.eq_zero_or_pos m with h0|h0
   ·exact h0
   ·obtain⟨_,_,he,_⟩:=hb.2 h0
    cases he
  subst hm;obtain rfl:rs=[]:=List.eq_nil_of_length_eq_zero hl
  have B:(Builtin.append_ #[t,t] o.type #[v,.slice none 0 c]).run P w=.ok v w:=by
   rcases bh.2 with⟨rfl,rfl⟩|⟨g,cap,cur,rfl,_,_,GY,_⟩
   ·simp[Builtin.append_,run_underlying ht,sizeOf,typeInfo,hi,Builtin.lenOf,Builtin.firstCells]
   ·simp[Builtin.append_,run_underlying ht,sizeOf,typeInfo,hi,Builtin.lenOf,Builtin.firstCells,GY,storeCells]
  refine wpList_plain rH fun K E=>?_
  unfold Oper.wp;simp[execOp,ho,resolve,invoke,builtin,hs,hx,B,Result.andThen];exact E _ _ (h v w (by simpa using bh) (World.grownBy.refl w _))
 ·refine wpList_append_own w rH s x t ho base e i z 2 32 ht hi hz eO uu Rb (by decide) v n (dF xs) hs bh ad m c (dF rs) hx (by rw[oA,hl];omega) ?_ (GF rs) (by unfold maxLen;omega) lQ ft ?_
  ·intro j u A
   have G:j<2*m:=by
    have:=(List.getElem?_eq_some_iff.1 A).1;rw[oA,hl]at this;exact this
   obtain⟨b,off,he,_,hc⟩:=hb.2 (by omega)
   cases he
   obtain⟨c0,c1⟩:=hc (j / 2) (by omega);obtain⟨g0,g1⟩:=vA rs (j / 2) (by omega);rw[WideShapes.add_plain];rcases Nat.mod_two_eq_zero_or_one j with EC|EC
   ·have e:j=2*(j / 2):=by omega
    rw[e]at A;rw[g0]at A
    cases A
    rw[show off+j=off+2*(j / 2) by omega];exact c0
   ·have e:j=2*(j / 2)+1:=by omega
    rw[e]at A;rw[g1]at A
    cases A
    rw[show off+j=off+2*(j / 2)+1 by omega];exact c1
  ·intro v' w' h1 D _
   rw[←GD]at h1;exact h v' w' h1 D
end Rec
namespace Head
open Hp Go.Proofs.YtdhibldkldlfpaaGreatDoor.Mp
variable {R:Nat} {todo:Nat→Bool} {a b:Nat→List UInt8} {f:Nat→Option Value}
theorem jc {bs:List UInt8} (h:fV w B R f todo) (hr:eB w g bs):g≠B∧g≠R:=by
 obtain⟨es,clock,since,seen,c0,D,hs,h1,E,A,_⟩:=h;unfold eB at hr;refine⟨fun e=>?_,fun e=>?_⟩
 ·rw[e,D]at hr;cases hr
 ·rw[e,A]at hr;cases hr
theorem ER (h:fV w B R f todo) (e:B=R):False:=by
 obtain⟨es,clock,since,seen,c0,D,hs,h1,E,A,_⟩:=h;rw[←e,D]at A
 cases A
def jh (todo:Nat→Bool) (a b:Nat→List UInt8):Nat→List UInt8:=fun i=>if todo i=true then a i else b i
theorem zX (ha:Fits a) (hb:Fits b):Fits (jh todo a b):=fun i=>by
 unfold jh;split
 ·exact ha i
 ·exact hb i
theorem zW (ha:Fits a) (hb:Fits b) (h:∀i,i<11→todo i=false):jh todo a b=b:=
 zk (zX ha hb) hb fun i hi=>by unfold jh;rw[if_neg (by simp[h i hi])]
theorem tw (j:Nat):Ba (jh todo a b) j (b j)=jh (fun z=>todo z&&z != j) a b:=by
 funext i
 by_cases hi:i=j
 ·subst hi
  rw[mB,jh,if_neg (by simp)]
 ·rw[iT _ _ hi,jh,jh]
  have:(i != j)=true:=by simpa using hi
  simp[this]
theorem wh (r:Nat→Nat):∀j v,ix r j=some v→v=cL r j:=fun j v h=>by
 unfold ix at h;split at h
 ·exact(Option.some.inj h).symm
 ·cases h
theorem Ai {r:Nat→Nat} (h:ix r j=some v):j<11:=by
 unfold ix at h;split at h
 ·assumption
 ·cases h
theorem CI:(Tryz.prog.info? 5).map (·.size)=some 1:=by kernel_rfl
theorem jG {old cs:List UInt8} (h:cs.length=old.length):fi old cs=cs:=by
 simp[fi,List.drop_eq_nil_of_le (show old.length≤cs.length by omega)]
theorem gC (lo B:Nat) (r:Nat→Nat) (own:Nat→List UInt8) (i:Nat) (s:ByteArray) (w:World) (hi:i<11) (hP:aZ w lo B r own):
 Calls Tryz.prog 159 #[.map (some B),.int .i64 (i:Int),.string s] w fun e w'=>e=.returned (.tuple #[])∧aZ w' lo B r (Ba own i (fi (own i) (s.data.toList.take (aj i))))∧Kept (aA (r i)) w w'∧w'.heap.size=w.heap.size:=by
 have H:=gn
 have I:(Instr.lookup 166 (.map (some B)) (.int .i64 (i:Int)) false).run Tryz.prog w=.ok (.agg #[.int .i64 (fC i),.slice (some ⟨r i,0,none⟩) (aj i) (aj i)]) w:=
  hP.map.look (P:=Tryz.prog) Tryz.underlying166 Tryz.underlying170 (x:=i) (v:=cL r i) (by unfold ix;rw[if_pos hi])
 have A:=hP.fit i;have D:=Qh hP;obtain⟨cs,hcs⟩:∃cs,cs=s.data.toList.take (aj i):=⟨_,rfl⟩
 have E:cs.length≤aj i:=by rw[hcs,Qg];omega
 have HC:=Qh hcs;rw[←hcs];clear hP hcs
 go_enter Tryz.func159,Tryz.ntmps159
 go_wp2_with (first|(refine yx rfl _ _ 26 9 rfl 5 Tryz.underlying26 CI (some ⟨r i,0,none⟩) (aj i) (aj i) s rfl rfl (r i) 0 (own i) (D.out.row i hi) cs HC.out (fun _=>rfl) (by rw[Nat.zero_add,A];exact E) ?_;intro J G hk hs)|go_in)
 refine bodyPost_end (results_none rfl _ _ _) rfl ?_;refine⟨rfl,D.out.wrote hi hk (by rw[tK (by rw[A];exact E)];exact A) ?_,hk,hs⟩;rw[←mr];exact G.out
theorem Lx (p:Option Addr) (c:Nat) (bs:List UInt8) (w:World) (hn:bs.length=512) (hc:512≤c) (hm:c≤maxLen) (h:cB w p 512 bs):
 Calls Tryz.prog 101 #[.slice p 512 c] w fun e w'=>∃B r,e=.returned (.map (some B))∧aZ w' w.heap.size B r (cZ bs)∧Kept ag w w':=by
 unfold maxLen at hm;obtain⟨b,o,rfl,j0,_⟩:=h.cell (k:=0) (by omega);have H:=Qh h;have V:=Qh hn;clear h hn
 go_enter Tryz.func101,Tryz.ntmps101
 go_wp2_with fail
 refine(vr w).mono ?_;rintro e w1 ⟨B,r,rfl,A,hk⟩;have y:=Qh A;have u:=Qh hk;clear A hk;obtain⟨R,d⟩:∃R,R=w1.heap.size:=⟨_,rfl⟩
 go_wp2_with (first|(at_range;refine gM rfl _ rfl Tryz.underlying166 B y.out.map (fun _=>true) (fun _ _ _=>rfl) rfl R d ?_;intro w2 HI Y vL)|go_in)
 have xf:=Qh (y.out.cJ Y.out);have ib:=Qh (u.out.trans Y.out);have yz:Hid (w.heap.size≤R):=Qh (by rw[d];exact u.out.size);clear Y vL d
 try go_frame
 go_loopw [9] (fun _ wr=>∃todo,Hid (fV wr B R (ix r) todo)∧Hid (aZ wr w.heap.size B r (jh todo fy (cZ bs)))∧Hid (Kept ag w wr)) (fun _ wr=>wr.rangeLeft B R)
 case atStart=>exact⟨fun _=>true,HI,by
  have e:jh (fun _=>true) fy (cZ bs)=fy:=by funext i;exact if_pos rfl
  rw[e];exact xf,ib⟩
 case round=>
  obtain⟨todo,M,A,hK⟩:=hrel
  go_wp2_with (at_next;refine iL rfl _ rfl B R todo (cL r) (wh r) rfl M.out ?_ ?_)
  ·intro hd
   have D:∀i,i<11→todo i=false:=fun i hi=>hd i (cL r i) (by unfold ix;rw[if_pos hi])
   have HD:=Qh (zW (todo:=todo) kX (Dw V.out) D);clear hd D;go_wp2;go_ret;refine⟨B,r,rfl,?_,hK.out⟩;rw[←HD.out];exact A.out
  ·intro j w3 v E NH D5 Be rr uG Nv
   have E:=Ai E;have QM:(Instr.entry (.pointer (some ⟨R,0,none⟩))).run Tryz.prog w3=.ok (.tuple #[.int .i64 (j:Int),.agg #[.int .i64 (fC j),.slice (some ⟨r j,0,none⟩) (aj j) (aj j)]]) w3:=Nv;have hw:=kq E;have jR:=lK E;have G:=Qh E;clear Nv;go_wp2_with fail;obtain⟨w4,O⟩:∃w4,w4=w3.alloc (.cells #[.int .i64 (fC j),.slice (some ⟨r j,0,none⟩) (aj j) (aj j)] 169):=⟨_,rfl⟩
   have g:Kept ag w3 w4:=by rw[O];exact(Kept.refl _ _).alloc _
   have L:w4.heap[wr.heap.size]? =some (.cells #[.int .i64 (fC j),.slice (some ⟨r j,0,none⟩) (aj j) (aj j)] 169 (0,0)):=by rw[O,←uG];exact heap_alloc_new _ _
   rw[←O];have Nu:w4.drew.cell? ⟨wr.heap.size,0,none⟩=some (.int .i64 (fC j)):=ck (w:=w4) L 0;have gR:w4.drew.cell? ⟨wr.heap.size,1,none⟩=some (.slice (some ⟨r j,0,none⟩) (aj j) (aj j)):=ck (w:=w4) L 1;have W:Kept (aA R) wr w4.drew:=rr.out.trans (g.drew.dZ _);have fA:=jc M.out (A.out.row j E);have I:=A.out.kept W (fun e=>ER M.out e) (fun i hi e=>(jc M.out (A.out.row i hi)).2 e)
   have X:=hK.out.then W (fun i hi=>Or.inl (by
    have h1:i=R:=hi;rw[h1]
    exact yz.out))
   have T:=D5.out.kept (g.drew) id id;have U:(au bs j).length=aj j:=jQ V.out E;have cN:=I.row j E
   have xM:cB w4.drew (some ⟨b,o+fC j,none⟩) (au bs j).length (au bs j):=by
    have h1:=(H.out.below (X.below (Qk _) (fun k hk=>hk.elim))).drop (k:=fC j) (c:=c) (by omega) (by omega) V.out;rw[if_neg (by omega)]at h1;have Z:=h1.take (k:=aj j) (by omega);rw[U]
    simpa [WideShapes.add_plain,au]using Z
   have Pd:((jh todo fy (cZ bs)) j).length=aj j:=I.fit j;have t:=Qh I;have D7:=Qh X;have q:=Qh T;have N:=Qh fA;have xg:=Qh cN;have PU:=Qh xM;have J:=Qh U;have SV:=Qh Pd;have Pz:=Qh L;have yB:Hid (w4.drew.rangeLeft B R<wr.rangeLeft B R):=Qh (by rw[T.2];exact Be.out);clear W fA I X T U cN xM Pd L g O QM
   go_region_held_law (fun w'=>w'.cell? ⟨wr.heap.size,0,none⟩=some (.int .i64 (fC j))∧w'.cell? ⟨wr.heap.size,1,none⟩=some (.slice (some ⟨r j,0,none⟩) (aj j) (aj j))) (first|exact⟨Nu,gR⟩|exact Xv)
    (first
     |(refine tZ rfl _ _ 26 26 rfl 5 Tryz.underlying26 CI (some ⟨r j,0,none⟩) (some ⟨b,o+fC j,none⟩) (aj j) (aj j) (512 - fC j) (c - fC j) rfl rfl (r j) 0 (jh todo fy (cZ bs) j) xg.out (au bs j)
        (by rw[J.out];exact(Nat.min_eq_right (by omega)).symm) (fun _=>rfl) PU.out (by rw[J.out,SV.out];omega) ?_
       intro m KC f qy;have Kr:=Qh f
       have Xv:m.cell? ⟨wr.heap.size,0,none⟩=some (.int .i64 (fC j))∧m.cell? ⟨wr.heap.size,1,none⟩=some (.slice (some ⟨r j,0,none⟩) (aj j) (aj j)):=by
        have h5:m.heap[wr.heap.size]? =_:=f.some_ (show w4.drew.heap[wr.heap.size]? =_ from Pz.out) (fun e=>by
         have h1:wr.heap.size=r j:=e;have Z:=(A.out.row j G.out).lt
         omega)
        exact⟨ck h5 0,ck h5 1⟩
       clear f))
   simp only[List.getElem_toArray,List.getElem_cons_succ,List.getElem_cons_zero]
   go_frame
   go_wp2;go_roundw
   case rel=>
    have hk:=Kr.out;have NB:=t.out.lo.2 j G.out
    refine⟨fun z=>todo z&&z != j,Qh (q.out.1.kept hk (fun e=>N.out.1 (Eq.symm e)) (fun e=>N.out.2 (Eq.symm e))).1,Qh ?_,Qh (D7.out.then hk (fun i hi=>Or.inl (by
     have h1:i=r j:=hi;rw[h1]
     exact NB)))⟩
    have hw:=t.out.wrote G.out hk (l:=au bs j) J.out (by
     have h1:=KC.out
     rwa [mr,jG (by rw[J.out,SV.out])]at h1)
    have e:=tw (todo:=todo) (a:=fy) (b:=cZ bs) j;rw[show cZ bs j=au bs j by unfold cZ;rw[if_pos G.out]]at e;rw[e]at hw;exact hw
   case measure=>
    have hk:=Kr.out;have h1:=(q.out.1.kept hk (fun e=>N.out.1 (Eq.symm e)) (fun e=>N.out.2 (Eq.symm e))).2;have Z:=yB.out;omega
theorem vt (lo B:Nat) (r:Nat→Nat) (own:Nat→List UInt8) (w:World) (Mm:aZ w lo B r own):
 Calls Tryz.prog 161 #[.map (some B)] w fun e w'=>∃g,e=.returned (.slice (some ⟨g,0,none⟩) 512 512)∧eB w' g (ct own)∧w.heap.size≤g∧Kept ag w w':=by
 obtain⟨i0,y,fQ,eU,eX⟩:=info_parts lR;have iq:=Qh y;have lr:=Qh fQ;have jZ:=Qh eU;have lu:=Qh eX;have Jn:=Qh Mm;have t:Hid (B<w.heap.size∧∀i,i<11→r i<w.heap.size):=Qh ⟨Mm.map.lt,fun i hi=>(Mm.row i hi).lt⟩;clear y fQ eU eX Mm
 go_enter Tryz.func161,Tryz.ntmps161
 go_wp2_with (at_make;refine wpList_make_full _ rfl _ _ 26 rfl w.heap.size 5 i0 (.int .u8 0) 1 Tryz.underlying26 iq.out lr.out jZ.out .i64 .i64 _ _ 512 rfl rfl rfl rfl (by rw[lu.out];omega) (by decide) (Qk _) ?_)
 intro w1 bh bw;have G:=LH bh;rw[←yW]at G;have Y:Kept ag w w1:=(Kept.refl ag w).grown bw (fun k hk=>by cases hk);obtain⟨g,hg⟩:∃g,g=w.heap.size:=⟨_,rfl⟩
 rw[←hg]at G⊢;have o:=Qh (Jn.out.cJ Y);have SX:=Qh G;have fB:=Qh Y;have L:Hid (w.heap.size≤g):=Qh (by omega);clear bh bw G Y;obtain⟨R,c⟩:∃R,R=w1.heap.size:=⟨_,rfl⟩
 go_wp2_with (first|(at_range;refine gM rfl _ rfl Tryz.underlying166 B o.out.map (fun _=>true) (fun _ _ _=>rfl) rfl R c ?_;intro w2 HI M vL)|go_in)
 have ib:=Qh (fB.out.trans M.out);have xf:=Qh (o.out.cJ M.out);have SY:=Qh (SX.out.kept M.out id);have yz:Hid (w.heap.size≤R):=Qh (by rw[c];exact fB.out.size);clear M vL c hg
 try go_frame
 go_loopw [9] (fun _ wr=>∃todo,Hid (fV wr B R (ix r) todo)∧Hid (aZ wr lo B r own)∧Hid (eB wr g (ct (jh todo fy own)))∧Hid (Kept ag w wr)) (fun _ wr=>wr.rangeLeft B R)
 case atStart=>exact⟨fun _=>true,HI,xf,by
  have e:jh (fun _=>true) fy own=fy:=by funext i;exact if_pos rfl
  rw[e];exact SY,ib⟩
 case round=>
  obtain⟨todo,O,E,N,hK⟩:=hrel
  go_wp2_with (at_next;refine iL rfl _ rfl B R todo (cL r) (wh r) rfl O.out ?_ ?_)
  ·intro hd
   have A:∀i,i<11→todo i=false:=fun i hi=>hd i (cL r i) (by unfold ix;rw[if_pos hi])
   have HD:=Qh (zW (todo:=todo) kX E.out.fit A);clear hd A;go_wp2;go_ret;refine⟨g,rfl,?_,L.out,hK.out⟩;rw[←HD.out];exact N.out
  ·intro j w3 v D NH D5 Be rr uG u
   have D:=Ai D;have QM:(Instr.entry (.pointer (some ⟨R,0,none⟩))).run Tryz.prog w3=.ok (.tuple #[.int .i64 (j:Int),.agg #[.int .i64 (fC j),.slice (some ⟨r j,0,none⟩) (aj j) (aj j)]]) w3:=u;have hw:=kq D;have jR:=lK D;have HJ:=Qh D;clear u;go_wp2_with fail;obtain⟨w4,U⟩:∃w4,w4=w3.alloc (.cells #[.int .i64 (fC j),.slice (some ⟨r j,0,none⟩) (aj j) (aj j)] 169):=⟨_,rfl⟩
   have f:Kept ag w3 w4:=by rw[U];exact(Kept.refl _ _).alloc _
   have I:w4.heap[wr.heap.size]? =some (.cells #[.int .i64 (fC j),.slice (some ⟨r j,0,none⟩) (aj j) (aj j)] 169 (0,0)):=by rw[U,←uG];exact heap_alloc_new _ _
   rw[←U];have Nu:w4.drew.cell? ⟨wr.heap.size,0,none⟩=some (.int .i64 (fC j)):=ck (w:=w4) I 0;have gR:w4.drew.cell? ⟨wr.heap.size,1,none⟩=some (.slice (some ⟨r j,0,none⟩) (aj j) (aj j)):=ck (w:=w4) I 1;have J:Kept (aA R) wr w4.drew:=rr.out.trans (f.drew.dZ _);have Z:=jc O.out N.out;have X:=E.out.kept J (fun e=>ER O.out e) (fun i hi e=>(jc O.out (E.out.row i hi)).2 e)
   have RY:=hK.out.then J (fun i hi=>Or.inl (by
    have h1:i=R:=hi;rw[h1]
    exact yz.out))
   have V:=D5.out.kept (f.drew) id id;have W:(own j).length=aj j:=E.out.fit j;have cN:eB w4.drew g (ct (jh todo fy own)):=N.out.kept J (fun e=>Z.2 e)
   have xM:cB w4.drew (some ⟨r j,0,none⟩) (own j).length (own j):=by
    rw[W];exact X.gZ D
   have D9:=Qh X;have D7:=Qh RY;have m:=Qh V;have T:=Qh Z;have xg:=Qh cN;have PU:=Qh xM;have H:=Qh W;have Pz:=Qh I;have p:Hid (Fits (jh todo fy own)):=Qh (zX kX E.out.fit);have yB:Hid (w4.drew.rangeLeft B R<wr.rangeLeft B R):=Qh (by rw[V.2];exact Be.out);clear J Z X RY V W cN xM I f U QM
   go_region_held_law (fun w'=>w'.cell? ⟨wr.heap.size,0,none⟩=some (.int .i64 (fC j))∧w'.cell? ⟨wr.heap.size,1,none⟩=some (.slice (some ⟨r j,0,none⟩) (aj j) (aj j))) (first|exact⟨Nu,gR⟩|exact Xv)
    (first
     |(refine tZ rfl _ _ 26 26 rfl 5 Tryz.underlying26 CI (some ⟨g,fC j,none⟩) (some ⟨r j,0,none⟩) (512 - fC j) (512 - fC j) (aj j) (aj j) rfl rfl g (fC j) (ct (jh todo fy own)) xg.out (own j)
        (by rw[H.out];exact(Nat.min_eq_left (by omega)).symm) (fun _=>rfl) PU.out (by rw[H.out,bU];omega) ?_
       intro l KC d qy;have q:=Qh d
       have Xv:l.cell? ⟨wr.heap.size,0,none⟩=some (.int .i64 (fC j))∧l.cell? ⟨wr.heap.size,1,none⟩=some (.slice (some ⟨r j,0,none⟩) (aj j) (aj j)):=by
        have h5:l.heap[wr.heap.size]? =_:=d.some_ (show w4.drew.heap[wr.heap.size]? =_ from Pz.out) (fun e=>by
         have h1:wr.heap.size=g:=e;have b:=N.out.lt
         omega)
        exact⟨ck h5 0,ck h5 1⟩
       clear d))
   simp only[List.getElem_toArray,List.getElem_cons_succ,List.getElem_cons_zero]
   go_frame
   go_wp2;go_roundw
   case rel=>
    have hk:=q.out
    refine⟨fun z=>todo z&&z != j,Qh (m.out.1.kept hk (fun e=>T.out.1 (Eq.symm e)) (fun e=>T.out.2 (Eq.symm e))).1,Qh (D9.out.kept hk (fun e=>?_) (fun i hi e=>?_)),Qh ?_,Qh (D7.out.then hk (fun i hi=>Or.inl (by
     have h1:i=g:=hi;rw[h1]
     exact L.out)))⟩
    ·have h1:B=g:=e
     have b:=t.out.1;have h3:=L.out;omega
    ·have h1:r i=g:=e
     have b:=t.out.2 i hi;have h3:=L.out;omega
    ·have h1:=KC.out
     rw[uS p.out HJ.out (by rw[H.out];exact Qk _),jG (by rw[H.out,p.out j]),tw]at h1;exact h1
   case measure=>
    have hk:=q.out;have h1:=(m.out.1.kept hk (fun e=>T.out.1 (Eq.symm e)) (fun e=>T.out.2 (Eq.symm e))).2;have b:=yB.out;omega
end Head
namespace Head
open Hp Go.Proofs.YtdhibldkldlfpaaGreatDoor.Mp Fp Go.Proofs.YtdhibldkldlfpaaGreatDoor.Field
variable {own:Nat→List UInt8}
def kP (mC:Nat→Int):Nat→Option Value:=fun i=>if 1≤i∧i≤5 then some (.int .i64 (mC i))else none
theorem Ac (mC:Nat→Int):∀j v,kP mC j=some v→v=.int .i64 (mC j):=fun j v h=>by
 unfold kP at h;split at h
 ·exact(Option.some.inj h).symm
 ·cases h
theorem E6 {mC:Nat→Int} (h:kP mC j=some v):1≤j∧j≤5:=by
 unfold kP at h;split at h
 ·assumption
 ·cases h
theorem oS (mC:Nat→Int) (h1:1≤j) (h2:j≤5):kP mC j=some (.int .i64 (mC j)):=by
 unfold kP;rw[if_pos ⟨h1,h2⟩]
theorem nj (n l:ByteArray) (k m u g t z:Int) (fh:Bool) (mC:Nat→Int) (h1:mC 1=m) (h2:mC 2=u) (h3:mC 3=g) (h4:mC 4=z) (h5:mC 5=t) (w:World):
 Calls Tryz.prog 138 #[.agg #[.string n,.string l,.int .u8 k,.int .i64 m,.int .i64 u,.int .i64 g,.int .i64 t,.int .i64 z,.bool fh]] w fun e w'=>∃N,e=.returned (.map (some N))∧js w' N (kP mC)∧w.heap.size≤N∧Kept ag w w':=by
 obtain⟨O,hO⟩:∃O,O=Obj.cells #[.string n,.string l,.int .u8 k,.int .i64 m,.int .i64 u,.int .i64 g,.int .i64 t,.int .i64 z,.bool fh] 66:=⟨_,rfl⟩
 have L:=pO (w.alloc O);rw[World.size_alloc,hO]at L;have o:=Qh L;have D:((w.alloc O).alloc (.map #[] 0)).heap[w.heap.size]? =some O:=((Kept.refl ag (w.alloc O)).alloc (.map #[] 0)).some_ (heap_alloc_new w O) id;have I:Kept ag w ((w.alloc O).alloc (.map #[] 0)):=((Kept.refl ag w).alloc O).alloc _;rw[hO]at D I;have f:=Qh D;have p:=Qh I;clear L D I hO
 have off:¬aA (w.heap.size+1) w.heap.size:=fun e=>by
  have:w.heap.size=w.heap.size+1:=e;omega
 have B:=Qh off
 have lo:∀i,aA (w.heap.size+1) i→w.heap.size≤i∨ag i:=fun i hi=>Or.inl (by
  have:i=w.heap.size+1:=hi
  omega)
 have A:=Qh lo;clear off lo;have mm:=@run_makeMap Tryz.prog
 go_enter Tryz.func138,Tryz.ntmps138
 go_wp2_with (refine dP rfl _ _ _ (Or.inr rfl) Tryz.underlying171 Tryz.underlying170 (w.heap.size+1) o.out rfl 1 rfl rfl (.int .i64 m) rfl ?_)
 intro w1 q E oG;have M:=Qh (E.out.some_ f.out B.out);have Z:=Qh (p.out.then E.out A.out);have c4:=ck M.out 4;clear E oG
 go_wp2_with (refine dP rfl _ _ _ (Or.inr rfl) Tryz.underlying171 Tryz.underlying170 (w.heap.size+1) q.out rfl 2 rfl rfl (.int .i64 u) rfl ?_)
 intro w2 Y G vL;have R:=Qh (G.out.some_ M.out B.out);have d:=Qh (Z.out.then G.out A.out);have c5:=ck R.out 5;clear G vL c4
 go_wp2_with (refine dP rfl _ _ _ (Or.inr rfl) Tryz.underlying171 Tryz.underlying170 (w.heap.size+1) Y.out rfl 3 rfl rfl (.int .i64 g) rfl ?_)
 intro w3 b H uG;have T:=Qh (H.out.some_ R.out B.out);have rr:=Qh (d.out.then H.out A.out);have c6:=ck T.out 6;clear H uG c5
 go_wp2_with (refine dP rfl _ _ _ (Or.inr rfl) Tryz.underlying171 Tryz.underlying170 (w.heap.size+1) b.out rfl 5 rfl rfl (.int .i64 t) rfl ?_)
 intro w4 r J X;have nW:=Qh (J.out.some_ T.out B.out);have V:=Qh (rr.out.then J.out A.out);have c7:=ck nW.out 7;clear J X c6
 go_wp2_with (refine dP rfl _ _ _ (Or.inr rfl) Tryz.underlying171 Tryz.underlying170 (w.heap.size+1) r.out rfl 4 rfl rfl (.int .i64 z) rfl ?_)
 intro w5 c U qy;have W:=Qh (V.out.then U.out A.out);clear U qy c7;go_wp2;go_ret;refine⟨_,rfl,?_,by omega,W.out⟩
 have e:(kP mC)=fun y=>if y=4 then some (Value.int .i64 z)else if y=5 then some (Value.int .i64 t)else if y=3 then some (Value.int .i64 g)else if y=2 then some (Value.int .i64 u)else if y=1 then some (Value.int .i64 m)else none:=by
  funext y
  unfold kP
  match y with
  |0=>rfl
  |1=>rw[h1];rfl
  |2=>rw[h2];rfl
  |3=>rw[h3];rfl
  |4=>rw[h4];rfl
  |5=>rw[h5];rfl
  |y+6=>rw[if_neg (by omega),if_neg (by omega),if_neg (by omega),if_neg (by omega),if_neg (by omega),if_neg (by omega)]
 rw[e];exact c.out
def oT (own:Nat→List UInt8):Bool:=(List.range 5).all fun i=>Li (bp (own (i+1)))
theorem mQ:oT own=true↔∀i,1≤i→i≤5→Li (bp (own i))=true:=by
 unfold oT;rw[List.all_eq_true];constructor
 ·intro h i h1 A
  have:=h (i - 1) (List.mem_range.2 (by omega))
  rwa [show i - 1+1=i by omega]at this
 ·intro h i hi
  have:=List.mem_range.1 hi;exact h (i+1) (by omega) (by omega)
def Jv (w:World) (own:Nat→List UInt8) (e:Ending) (w':World):Prop:=
 Kept ag w w'∧((oT own=true∧∃Q,e=.returned (.tuple #[.map (some Q),.bool true])∧js w' Q (kP fun i=>pb (bp (own i))))∨(oT own=false∧e=.returned (.tuple #[.map none,.bool false])))
theorem qH (lo B:Nat) (r:Nat→Nat) (own:Nat→List UInt8) (w:World) (Mm:aZ w lo B r own):
 Calls Tryz.prog 104 #[.map (some B)] w (Jv w own):=by
 have fl:=gn;have X:=Qh Mm;have sO:=pO w;have iy:=Qh sO;have j1:=Qh ((Kept.refl ag w).alloc (.map #[] 0));clear Mm sO;have mm:=@run_makeMap Tryz.prog
 go_enter Tryz.func104,Tryz.ntmps104
 go_wp2_with fail
 refine(nj ⟨#[]⟩ ⟨#[]⟩ 0 0 0 0 0 0 false (fun _=>0) rfl rfl rfl rfl rfl _).mono ?_;rintro e w1 ⟨N,rfl,hN,Vl,L⟩;have HN:=Qh hN;have q:Hid (N≠w.heap.size):=Qh (by rw[World.size_alloc]at Vl;omega);have Y7:=Qh (iy.out.kept L id);have Fv:=Qh ((X.out.cJ j1.out).cJ L);have fB:=Qh (j1.out.trans L);clear hN Vl L;obtain⟨R,hR⟩:∃R,R=w1.heap.size:=⟨_,rfl⟩
 go_wp2_with (first|(at_range;refine gM rfl _ rfl Tryz.underlying171 N HN.out (fun _=>true) (fun _ _ _=>rfl) rfl R hR ?_;intro w2 HI M vL)|go_in)
 have ib:=Qh (fB.out.trans M.out);have xf:=Qh (Fv.out.cJ M.out);have Ea:=Qh (Y7.out.kept M.out id)
 have T:Hid (w.heap.size<R):=Qh (by
  have:=Y7.out.lt
  omega)
 clear M vL hR
 try go_frame
 go_loopw [12] (fun _ wr=>∃todo,Hid (fV wr N R (kP fun _=>0) todo)∧Hid (aZ wr lo B r own)∧Hid (js wr w.heap.size (fun i=>if todo i=true then none else kP (fun i=>pb (bp (own i))) i))∧Hid (Kept ag w wr)∧Hid (∀i,1≤i→i≤5→todo i=false→Li (bp (own i))=true)) (fun _ wr=>wr.rangeLeft N R)
 case atStart=>exact⟨fun _=>true,HI,xf,by
  have e:(fun i=>if true=true then none else kP (fun i=>pb (bp (own i))) i)=fun _=>(none:Option Value):=by funext i;rfl
  rw[e];exact Ea,ib,Qh (fun i _ _ h=>by cases h)⟩
 case round=>
  obtain⟨todo,b,c,hQ,hK,hD⟩:=hrel
  go_wp2_with (at_next;refine iL rfl _ rfl N R todo (fun _=>.int .i64 0) (Ac _) rfl b.out ?_ ?_)
  ·intro hd
   have D:∀i,1≤i→i≤5→todo i=false:=fun i h1 A=>hd i (.int .i64 0) (oS _ h1 A)
   have I:Hid (oT own=true∧(fun i=>if todo i=true then none else kP (fun i=>pb (bp (own i))) i)=kP fun i=>pb (bp (own i))):=Qh ⟨mQ.2 fun i h1 A=>hD.out i h1 A (D i h1 A),by
    funext i
    split
    ·rename_i E
     unfold kP;rw[if_neg];rintro⟨h1,A⟩;rw[D i h1 A]at E
     cases E
    ·rfl⟩
   clear hd D;go_wp2;go_ret2;refine⟨hK.out,Or.inl ⟨I.out.1,_,rfl,?_⟩⟩;have h1:=hQ.out;rw[I.out.2]at h1;exact h1
  ·intro j w3 v d p D5 Be f uG Nv
   have d:=E6 d;obtain⟨Cu,XQ⟩:=d;have l:j<11:=by omega
   have Y:=c.out.kept f.out (fun e=>by
    have h1:=c.out.map;have A:=b.out;obtain⟨es,clock,hb,_⟩:=h1;obtain⟨_,_,_,_,_,_,_,_,_,hr,_⟩:=A;have e:B=R:=e;rw[←e,hb]at hr
    cases hr) (fun i hi e=>(jc b.out (c.out.row i hi)).2 e)
   have ZC:=hQ.out.kept f.out (fun e=>by
    have e:w.heap.size=R:=e;have:=T.out
    omega)
   have t:=hK.out.then f.out (fun i hi=>Or.inl (by
    have h1:i=R:=hi;have:=T.out
    omega))
   have lk:(Instr.lookup 166 (.map (some B)) (.int .i64 (j:Int)) false).run Tryz.prog w3=.ok (.agg #[.int .i64 (fC j),.slice (some ⟨r j,0,none⟩) (aj j) (aj j)]) w3:=
    Y.map.look (P:=Tryz.prog) Tryz.underlying166 Tryz.underlying170 (x:=j) (v:=cL r j) (by unfold ix;rw[if_pos l])
   have hw:=kq l;have HJ:=Qh l;have g:=Qh Y;have SN:=Qh ZC;have Bd:=Qh t;have HW:=Qh hw;have Ze:=Qh p;have J:Hid (1≤j∧j≤5):=Qh ⟨Cu,XQ⟩;clear Y ZC t hw p;go_wp2_with fail;refine(we _ (aj j) (aj j) (own j) w3 (g.out.fit j) (Qk _) (by have:=HW.out;unfold maxLen;omega) (g.out.gZ HJ.out)).mono ?_;rintro e w4 ⟨rfl,fS⟩;have H:Kept ag w3 w4:=Kept.aS fS _;have D9:=Qh (g.out.cJ H);have V:=Qh (SN.out.kept H id);have o:=Qh (Bd.out.trans H);have U:=D5.out.kept H id id;have m:=Qh U.1;have V6:Hid (w4.rangeLeft N R<wr.rangeLeft N R):=Qh (by rw[U.2];exact Be.out);clear fS H U lk
   by_cases G:Li (bp (own j))=true
   ·have ve:=Qh G
    rw[G];clear G
    go_wp2_with (first|(at_mapUpdate;refine dP rfl _ _ _ (Or.inl rfl) Tryz.underlying171 Tryz.underlying170 w.heap.size V.out rfl j rfl (by rw[Ze.out];rfl) (.int .i64 (pb (bp (own j)))) rfl ?_;intro w5 W O qy)|go_in)
    try go_frame
    try go_wp2
    go_roundw
    case rel=>
     have Z:=m.out.kept O.out q.out (fun e=>by
      have e:R=w.heap.size:=e;have:=T.out
      omega)
     refine⟨fun z=>todo z&&z != j,Qh Z.1,Qh (D9.out.kept O.out (fun e=>?_) (fun i hi e=>?_)),Qh ?_,Qh (o.out.then O.out (fun i hi=>Or.inl (by
      have h1:i=w.heap.size:=hi
      omega))),Qh (fun i h1 A E=>?_)⟩
     ·have e:B=w.heap.size:=e
      have:=X.out.map.lt;omega
     ·have e:r i=w.heap.size:=e
      have:=(X.out.row i hi).lt;omega
     ·have h1:=W.out
      have e:(fun y=>if y=j then some (Value.int .i64 (pb (bp (own j))))else if todo y=true then none else kP (fun i=>pb (bp (own i))) y)=fun i=>if(todo i&&i != j)=true then none else kP (fun i=>pb (bp (own i))) i:=by
       funext y
       by_cases hy:y=j
       ·subst hy
        rw[if_pos rfl,if_neg (by simp),oS _ J.out.1 J.out.2]
       ·have A:(y != j)=true:=by simpa using hy
        rw[if_neg hy,A,Bool.and_true]
      rw[e]at h1;exact h1
     ·by_cases rI:i=j
      ·rw[rI];exact ve.out
      ·have h3:(i != j)=true:=by simpa using rI
       have E:(todo i&&i != j)=false:=E;rw[h3,Bool.and_true]at E;exact hD.out i h1 A E
    case measure=>
     have Z:=m.out.kept O.out q.out (fun e=>by
      have e:R=w.heap.size:=e;have:=T.out
      omega)
     have h1:=V6.out;have A:=Z.2;omega
   ·have u:Li (bp (own j))=false:=by simpa using G
    have I:Hid (oT own=false):=Qh (by
     cases hc:oT own with
     |false=>rfl
     |true=>exact absurd (mQ.1 hc j J.out.1 J.out.2) G)
    rw[u];clear G u;go_wp2;go_ret2;exact⟨o.out,Or.inr ⟨I.out,rfl⟩⟩
def LJ (r:Nat→Nat):Nat→Prop:=fun k=>∃i,i<11∧k=r i
def tB (h:ak) (own:Nat→List UInt8):Nat→List UInt8:=fun i=>if 1≤i∧i≤5 then Dh h i else own i
def qe (w:World) (lo B:Nat) (r:Nat→Nat) (h:ak) (own:Nat→List UInt8) (e:Ending) (w':World):Prop:=
 Kept (LJ r) w w'∧((eV h=true∧e=.returned (.bool true)∧aZ w' lo B r (tB h own))∨(eV h=false∧e=.returned (.bool false)))
theorem tL (h:ak) (Q4:∀i,(Lit.int .i64 (jV h i)).wf=true) (lo B:Nat) (r:Nat→Nat) (own:Nat→List UInt8) (w:World) (Mm:aZ w lo B r own) (hz:∀i,1≤i→i≤5→own i=List.replicate (aj i) 0):
 Calls Tryz.prog 158 #[.map (some B),.agg #[.string (str h.name),.string (str h.link),.int .u8 (h.kind.toNat:Int),.int .i64 h.mode,.int .i64 h.uid,.int .i64 h.gid,.int .i64 h.time,.int .i64 h.size,.bool h.fh]] w (qe w lo B r h own):=by
 have fl:=gn;have Jn:=Qh Mm;have HZ:=Qh hz;have Wu:=Qh Q4;have j1:=Qh ((Kept.refl ag w).alloc (.cells #[.string (str h.name),.string (str h.link),.int .u8 (h.kind.toNat:Int),.int .i64 h.mode,.int .i64 h.uid,.int .i64 h.gid,.int .i64 h.time,.int .i64 h.size,.bool h.fh] 66));clear Mm hz Q4
 go_enter Tryz.func158,Tryz.ntmps158
 go_wp2_with fail
 refine(nj _ _ _ _ _ _ _ _ _ (jV h) rfl rfl rfl rfl rfl _).mono ?_;rintro e w1 ⟨N,rfl,hN,Vl,c⟩;have HN:=Qh hN;have Fv:=Qh ((Jn.out.cJ j1.out).cJ c);have fB:=Qh (j1.out.trans c);clear hN Vl c;obtain⟨R,m⟩:∃R,R=w1.heap.size:=⟨_,rfl⟩
 go_wp2_with (first|(at_range;refine gM rfl _ rfl Tryz.underlying171 N HN.out (fun _=>true) (fun _ _ _=>rfl) rfl R m ?_;intro w2 HI d vL)|go_in)
 have ib:=Qh ((fB.out.trans d.out).dZ (LJ r));have xf:=Qh (Fv.out.cJ d.out);have yz:Hid (w.heap.size≤R):=Qh (by rw[m];exact fB.out.size);clear d vL m
 try go_frame
 go_loopw [12] (fun _ wr=>∃todo,Hid (fV wr N R (kP (jV h)) todo)∧Hid (aZ wr lo B r (jh todo own (tB h own)))∧Hid (Kept (LJ r) w wr)∧Hid (∀i,1≤i→i≤5→todo i=false→(eZ (jV h i) (aj i)).isSome=true)) (fun _ wr=>wr.rangeLeft N R)
 case atStart=>exact⟨fun _=>true,HI,by
  have e:jh (fun _=>true) own (tB h own)=own:=by funext i;exact if_pos rfl
  rw[e];exact xf,ib,Qh (fun i _ _ h=>by cases h)⟩
 case round=>
  obtain⟨todo,g,L,hK,hD⟩:=hrel
  go_wp2_with (at_next;refine iL rfl _ rfl N R todo (fun j=>.int .i64 (jV h j)) (Ac _) rfl g.out ?_ ?_)
  ·intro hd
   have D:∀i,1≤i→i≤5→todo i=false:=fun i h1 A=>hd i _ (oS _ h1 A)
   have H:Hid (eV h=true∧jh todo own (tB h own)=tB h own):=Qh ⟨dt.2 fun i h1 A=>hD.out i h1 A (D i h1 A),by
    funext i
    unfold jh;split
    ·rename_i E
     unfold tB;rw[if_neg];rintro⟨h1,A⟩;rw[D i h1 A]at E
     cases E
    ·rfl⟩
   clear hd D;go_wp2;go_ret;refine⟨hK.out,Or.inl ⟨H.out.1,rfl,?_⟩⟩;have h1:=L.out;rw[H.out.2]at h1;exact h1
  ·intro j w3 v p NH u Be rr uG Nv
   have p:=E6 p;obtain⟨Cu,XQ⟩:=p;have O:j<11:=by omega
   have W:=L.out.kept rr.out (fun e=>by
    have h1:=L.out.map;have A:=g.out;obtain⟨es,clock,hb,_⟩:=h1;obtain⟨_,_,_,_,_,_,_,_,_,hr,_⟩:=A;have e:B=R:=e;rw[←e,hb]at hr
    cases hr) (fun i hi e=>(jc g.out (L.out.row i hi)).2 e)
   have Tk:=hK.out.then rr.out (fun i hi=>Or.inl (by
    have h1:i=R:=hi;have:=yz.out
    omega))
   have lk:(Instr.lookup 166 (.map (some B)) (.int .i64 (j:Int)) false).run Tryz.prog w3=.ok (.agg #[.int .i64 (fC j),.slice (some ⟨r j,0,none⟩) (aj j) (aj j)]) w3:=
    W.map.look (P:=Tryz.prog) Tryz.underlying166 Tryz.underlying170 (x:=j) (v:=cL r j) (by unfold ix;rw[if_pos O])
   have hw:=kq O;have HJ:=Qh O;have ru:=Qh W;have t:=Qh Tk;have HW:=Qh hw;have Ze:=Qh NH;have X:Hid (1≤j∧j≤5):=Qh ⟨Cu,XQ⟩;have G:=Qh (jc (u.out) (ru.out.row j O));clear W Tk hw NH;go_wp2_with fail
   refine(Fc (jV h j) (aj j) w3 (Wu.out j) (by
    have:=HW.out
    exact WalkArith.wf_i64 (by omega))).mono ?_
   rintro e w4 ⟨J,(⟨l,v4,hl,rfl,bh⟩|⟨hl,rfl⟩)⟩
   ·have hlen:=qM hl
    obtain⟨p4,c4,rfl,o,q,q9,_⟩:=Fe rfl hl bh;have M:Kept ag w3 w4:=Kept.aS J _;have D9:=Qh (ru.out.cJ M);have U:=Qh (t.out.trans (M.dZ _));have T:=u.out.kept M id id;have y:=Qh T.1;have V6:Hid (w4.rangeLeft N R<wr.rangeLeft N R):=Qh (by rw[T.2];exact Be.out);have iE:(bytesOf l).length=aj j:=by rw[bytesOf_length];omega
    have cs:(convert 26 9 (.slice p4 l.length c4)).run Tryz.prog w4=.ok (.string (str (bytesOf l))) w4:=cD q9 (by rw[bytesOf_length]) _ _ _ Tryz.underlying26 Tryz.underlying5 Tryz.underlying9 c4;have HB:Hid (Dh h j=bytesOf l):=Qh (pQ hl);have Jf:=Qh iE;have V:Hid ((eZ (jV h j) (aj j)).isSome=true):=Qh (by rw[hl];rfl);clear hl bh hlen o q q9 J M T lk iE;go_wp2_with fail;refine(gC lo B r _ j (str (bytesOf l)) w4 HJ.out D9.out).mono ?_;rintro e w5 ⟨rfl,I,ig,qy⟩;have hold:(jh todo own (tB h own) j).length=aj j:=D9.out.fit j;rw[bg,List.take_of_length_le (by rw[Jf.out];exact Qk _),jG (by rw[Jf.out,hold])]at I;have f:=tw (todo:=todo) (a:=own) (b:=tB h own) j;rw[show tB h own j=bytesOf l by unfold tB;rw[if_pos X.out,HB.out]]at f;rw[f]at I;have Wc:=Qh I;have Y:=Qh ig;clear I ig qy hold f cs;go_wp2;go_roundw
    case rel=>
     have Z:=y.out.kept Y.out (fun e=>G.out.1 (Eq.symm e)) (fun e=>G.out.2 (Eq.symm e));refine⟨fun z=>todo z&&z != j,Qh Z.1,Wc,Qh (U.out.trans (Y.out.mono (fun k hk=>⟨j,HJ.out,hk⟩))),Qh (fun i h1 A E=>?_)⟩
     by_cases rI:i=j
     ·rw[rI];exact V.out
     ·have h3:(i != j)=true:=by simpa using rI
      have E:(todo i&&i != j)=false:=E;rw[h3,Bool.and_true]at E;exact hD.out i h1 A E
    case measure=>
     have Z:=y.out.kept Y.out (fun e=>G.out.1 (Eq.symm e)) (fun e=>G.out.2 (Eq.symm e));have h1:=V6.out;have A:=Z.2;omega
   ·have H:Hid (eV h=false):=Qh (by
     cases hc:eV h with
     |false=>rfl
     |true=>
      have:=dt.1 hc j X.out.1 X.out.2;rw[hl]at this
      cases this)
    have U:=Qh (t.out.trans (Kept.aS J _));clear hl J lk;go_wp2;go_ret;exact⟨U.out,Or.inr ⟨H.out,rfl⟩⟩
theorem gX {fn:Func} (hf:fn.results=#[.cell 2 66,.tmp 3]) (tmps:Array Value) (w:World) (g:Nat) (v:Value) (ht:tmps.getD 2 undef=.pointer (some ⟨g,0,none⟩)) (hv:tmps.getD 3 undef=v)
 (a b:ByteArray) (k m u i t z:Int) (n:Bool) (h:w.heap[g]? =some (.cells #[.string a,.string b,.int .u8 k,.int .i64 m,.int .i64 u,.int .i64 i,.int .i64 t,.int .i64 z,.bool n] 66 (0,0))):
 (results fn tmps).run Tryz.prog w=.ok (.tuple #[.agg #[.string a,.string b,.int .u8 k,.int .i64 m,.int .i64 u,.int .i64 i,.int .i64 t,.int .i64 z,.bool n],v]) w:=by
 rw[results_cell_tmp hf,ht,hv];have hl:=mP w g a b k m u i t z n h;simp[asAddr,hl,Result.andThen]
theorem Pn {lo:Nat} {r:Nat→Nat} (h:aZ w lo B r own) (i:Nat) (hi:i<11):
 (Instr.lookup 166 (.map (some B)) (.int .i64 (i:Int)) false).run Tryz.prog w=.ok (.agg #[.int .i64 (fC i),.slice (some ⟨r i,0,none⟩) (aj i) (aj i)]) w:=
 h.map.look (P:=Tryz.prog) Tryz.underlying166 Tryz.underlying170 (x:=i) (v:=cL r i) (by unfold ix;rw[if_pos hi])
theorem kQ (bs:List UInt8):oT (cZ bs)=jC bs:=by
 have e:∀i,1≤i→i≤5→cZ bs i=au bs i:=fun i h1 A=>if_pos (by omega)
 cases h:jC bs with
 |true=>
  refine mQ.2 fun i h1 A=>?_
  rw[e i h1 A];exact l8.1 h i h1 A
 |false=>
  cases A:oT (cZ bs)with
  |false=>rfl
  |true=>
   have E:jC bs=true:=l8.2 fun i B D=>by
    rw[←e i B D];exact mQ.1 A i B D
   rw[h]at E
   cases E
theorem mh (bs:List UInt8) (i:Nat) (hi:i<11):cZ bs i=au bs i:=if_pos hi
def gJ:Array Value:=#[.string ⟨#[]⟩,.string ⟨#[]⟩,.int .u8 0,.int .i64 0,.int .i64 0,.int .i64 0,.int .i64 0,.int .i64 0,.bool false]
theorem mU {e:TypeId} (h:w.heap[g]? =some (.cells gJ e (0,0))) (v0 v1 v2 v3 v4 v5 v6 v7 v8:Value):
 (((((((((w.setCell ⟨g,0,none⟩ v0).setCell ⟨g,1,none⟩ v1).setCell ⟨g,2,none⟩ v2).setCell ⟨g,3,none⟩ v3).setCell ⟨g,4,none⟩ v4).setCell ⟨g,5,none⟩ v5).setCell ⟨g,6,none⟩ v6).setCell ⟨g,7,none⟩ v7).setCell ⟨g,8,none⟩ v8).heap[g]? =
   some (.cells #[v0,v1,v2,v3,v4,v5,v6,v7,v8] e (0,0)):=by
 have st:∀{w:World} {cs:Array Value} (i:Nat) (v:Value),w.heap[g]? =some (.cells cs e (0,0))→(w.setCell ⟨g,i,none⟩ v).heap[g]? =some (.cells (cs.setIfInBounds i v) e (0,0)):=by
  intro w cs i v h;rw[setCell_eq_setRow w g i _ _ _ _ h];exact setRow_heap w g _ _ _ _ h
 have A:(w.setCell ⟨g,0,none⟩ v0).heap[g]? =some (.cells #[v0,.string ⟨#[]⟩,.int .u8 0,.int .i64 0,.int .i64 0,.int .i64 0,.int .i64 0,.int .i64 0,.bool false] e (0,0)):=st 0 v0 h;have h1:((w.setCell ⟨g,0,none⟩ v0).setCell ⟨g,1,none⟩ v1).heap[g]? =some (.cells #[v0,v1,.int .u8 0,.int .i64 0,.int .i64 0,.int .i64 0,.int .i64 0,.int .i64 0,.bool false] e (0,0)):=st 1 v1 A;have B:(((w.setCell ⟨g,0,none⟩ v0).setCell ⟨g,1,none⟩ v1).setCell ⟨g,2,none⟩ v2).heap[g]? =some (.cells #[v0,v1,v2,.int .i64 0,.int .i64 0,.int .i64 0,.int .i64 0,.int .i64 0,.bool false] e (0,0)):=st 2 v2 h1;have D:((((w.setCell ⟨g,0,none⟩ v0).setCell ⟨g,1,none⟩ v1).setCell ⟨g,2,none⟩ v2).setCell ⟨g,3,none⟩ v3).heap[g]? =some (.cells #[v0,v1,v2,v3,.int .i64 0,.int .i64 0,.int .i64 0,.int .i64 0,.bool false] e (0,0)):=st 3 v3 B;have E:(((((w.setCell ⟨g,0,none⟩ v0).setCell ⟨g,1,none⟩ v1).setCell ⟨g,2,none⟩ v2).setCell ⟨g,3,none⟩ v3).setCell ⟨g,4,none⟩ v4).heap[g]? =some (.cells #[v0,v1,v2,v3,v4,.int .i64 0,.int .i64 0,.int .i64 0,.bool false] e (0,0)):=st 4 v4 D;have G:((((((w.setCell ⟨g,0,none⟩ v0).setCell ⟨g,1,none⟩ v1).setCell ⟨g,2,none⟩ v2).setCell ⟨g,3,none⟩ v3).setCell ⟨g,4,none⟩ v4).setCell ⟨g,5,none⟩ v5).heap[g]? =some (.cells #[v0,v1,v2,v3,v4,v5,.int .i64 0,.int .i64 0,.bool false] e (0,0)):=st 5 v5 E;have H:(((((((w.setCell ⟨g,0,none⟩ v0).setCell ⟨g,1,none⟩ v1).setCell ⟨g,2,none⟩ v2).setCell ⟨g,3,none⟩ v3).setCell ⟨g,4,none⟩ v4).setCell ⟨g,5,none⟩ v5).setCell ⟨g,6,none⟩ v6).heap[g]? =some (.cells #[v0,v1,v2,v3,v4,v5,v6,.int .i64 0,.bool false] e (0,0)):=st 6 v6 G
 have I:((((((((w.setCell ⟨g,0,none⟩ v0).setCell ⟨g,1,none⟩ v1).setCell ⟨g,2,none⟩ v2).setCell ⟨g,3,none⟩ v3).setCell ⟨g,4,none⟩ v4).setCell ⟨g,5,none⟩ v5).setCell ⟨g,6,none⟩ v6).setCell ⟨g,7,none⟩ v7).heap[g]? =some (.cells #[v0,v1,v2,v3,v4,v5,v6,v7,.bool false] e (0,0)):=st 7 v7 H;have J:(((((((((w.setCell ⟨g,0,none⟩ v0).setCell ⟨g,1,none⟩ v1).setCell ⟨g,2,none⟩ v2).setCell ⟨g,3,none⟩ v3).setCell ⟨g,4,none⟩ v4).setCell ⟨g,5,none⟩ v5).setCell ⟨g,6,none⟩ v6).setCell ⟨g,7,none⟩ v7).setCell ⟨g,8,none⟩ v8).heap[g]? =some (.cells #[v0,v1,v2,v3,v4,v5,v6,v7,v8] e (0,0)):=st 8 v8 I;exact J
theorem qB {w0:World} (h:Kept (aA g) w0 w) (v0 v1 v2 v3 v4 v5 v6 v7 v8:Value):
 Kept (aA g) w0 (((((((((w.setCell ⟨g,0,none⟩ v0).setCell ⟨g,1,none⟩ v1).setCell ⟨g,2,none⟩ v2).setCell ⟨g,3,none⟩ v3).setCell ⟨g,4,none⟩ v4).setCell ⟨g,5,none⟩ v5).setCell ⟨g,6,none⟩ v6).setCell ⟨g,7,none⟩ v7).setCell ⟨g,8,none⟩ v8):=by
 have st:∀{w:World} (i:Nat) (v:Value),Kept (aA g) w0 w→Kept (aA g) w0 (w.setCell ⟨g,i,none⟩ v):=fun i v h=>h.setCell (a:=⟨g,i,none⟩) (Or.inr (show aA g g from rfl)) v
 exact st 8 v8 (st 7 v7 (st 6 v6 (st 5 v5 (st 4 v4 (st 3 v3 (st 2 v2 (st 1 v1 (st 0 v0 h))))))))
theorem wW:str ez=⟨#[117,115,116,97,114,0,48,48]⟩:=rfl
theorem Eu:str qX=⟨#[117,115,116,97,114,32,32,0]⟩:=rfl
end Head
namespace Rec
open Path
def yK (R T:Int) (l:List UInt8) (w:World) (e:Ending) (w':World):Prop:=
 ∃p c,e=.returned (.tuple #[.slice p (cG R T l).1.length c,.int .i64 (cG R T l).2])∧(cG R T l).1.length≤c∧c≤maxLen∧cd w' p (cG R T l).1.length (cG R T l).1∧Below w.heap.size w w'
theorem o5 (R T:Int) (l:List UInt8) (w w':World) (er:Int) (h:cG R T l=([],er)) (hb:Below w.heap.size w w'):yK R T l w (.returned (.tuple #[.slice none 0 0,.int .i64 er])) w':=
 ⟨none,0,by rw[h];rfl,by rw[h];exact Qk _,by decide,by rw[h];exact⟨rfl,fun h=>absurd h (by simp)⟩,hb⟩
end Rec
namespace Head
open Hp Go.Proofs.YtdhibldkldlfpaaGreatDoor.Mp
noncomputable def aT:Array Oper:=tO Tryz.f74 13
def pV (B Q:Nat) (mg nm ln:ByteArray) (fh:Bool) (kd v1 v2 v3 v4 v5:Int):Nat→Value
 |0=>.map (some B)|1=>.string mg|2=>.bool fh|3=>.string nm|4=>.map (some B)|5=>.string ln|6=>.map (some B)|7=>.int .u8 kd
 |8=>.map (some Q)|9=>.int .i64 v1|10=>.map (some Q)|11=>.int .i64 v2|12=>.map (some Q)|13=>.int .i64 v3|14=>.map (some Q)|15=>.int .i64 v5
 |16=>.agg #[.int .i64 v1,.int .i64 v2,.int .i64 v3,.int .i64 v5]|17=>.map (some Q)|18=>.int .i64 v4|19=>.string mg|20=>.bool fh
 |21=>.agg #[.string nm,.string ln,.int .u8 kd,.int .i64 v1,.int .i64 v2,.int .i64 v3,.int .i64 v5,.int .i64 v4,.bool fh]|23=>.int .i64 0|_=>undef
theorem tF:aT.size=24:=rfl
theorem Ah:xk aT 73=true:=by kernel_rfl
theorem YC:∃o,aT[0]? =some o∧o.op=.move (.tmp 4)∧o.dst=some 51:=⟨_,rfl,rfl,rfl⟩
theorem YD:∃o,aT[1]? =some o∧o.op=.move (.tmp 7)∧o.dst=some 52:=⟨_,rfl,rfl,rfl⟩
theorem YE:∃o,aT[2]? =some o∧o.op=.binOp .eql 9 (.tmp 52) (.const (.string ⟨#[117,115,116,97,114,32,32,0]⟩)) 9∧o.dst=some 53:=⟨_,rfl,rfl,rfl⟩
theorem YF:∃o,aT[3]? =some o∧o.op=.call {callee:=.value (.func 105),args:=#[.tmp 51,.tmp 53],argTypes:=#[166,4]}∧o.dst=some 54:=⟨_,rfl,rfl,rfl⟩
theorem YG:∃o,aT[4]? =some o∧o.op=.move (.tmp 4)∧o.dst=some 55:=⟨_,rfl,rfl,rfl⟩
theorem YH:∃o,aT[5]? =some o∧o.op=.call {callee:=.value (.func 106),args:=#[.tmp 55,.const (.int .i64 8)],argTypes:=#[166,170]}∧o.dst=some 56:=⟨_,rfl,rfl,rfl⟩
theorem YI:∃o,aT[6]? =some o∧o.op=.move (.tmp 4)∧o.dst=some 57:=⟨_,rfl,rfl,rfl⟩
theorem YJ:∃o,aT[7]? =some o∧o.op=.call {callee:=.value (.func 107),args:=#[.tmp 57],argTypes:=#[166]}∧o.dst=some 58:=⟨_,rfl,rfl,rfl⟩
theorem pop8:∃o,aT[8]? =some o∧o.op=.move (.tmp 8)∧o.dst=some 59:=⟨_,rfl,rfl,rfl⟩
theorem YK:∃o,aT[9]? =some o∧o.op=.lookup 171 (.tmp 59) (.const (.int .i64 1)) false∧o.dst=some 60:=⟨_,rfl,rfl,rfl⟩
theorem UF:∃o,aT[10]? =some o∧o.op=.move (.tmp 8)∧o.dst=some 61:=⟨_,rfl,rfl,rfl⟩
theorem UG:∃o,aT[11]? =some o∧o.op=.lookup 171 (.tmp 61) (.const (.int .i64 2)) false∧o.dst=some 62:=⟨_,rfl,rfl,rfl⟩
theorem UH:∃o,aT[12]? =some o∧o.op=.move (.tmp 8)∧o.dst=some 63:=⟨_,rfl,rfl,rfl⟩
theorem UI:∃o,aT[13]? =some o∧o.op=.lookup 171 (.tmp 63) (.const (.int .i64 3)) false∧o.dst=some 64:=⟨_,rfl,rfl,rfl⟩
theorem UJ:∃o,aT[14]? =some o∧o.op=.move (.tmp 8)∧o.dst=some 65:=⟨_,rfl,rfl,rfl⟩
theorem UK:∃o,aT[15]? =some o∧o.op=.lookup 171 (.tmp 65) (.const (.int .i64 5)) false∧o.dst=some 66:=⟨_,rfl,rfl,rfl⟩
theorem UL:∃o,aT[16]? =some o∧o.op=.build 46 #[(0,.tmp 60),(1,.tmp 62),(2,.tmp 64),(3,.tmp 66)]∧o.dst=some 67:=⟨_,rfl,rfl,rfl⟩
theorem UM:∃o,aT[17]? =some o∧o.op=.move (.tmp 8)∧o.dst=some 68:=⟨_,rfl,rfl,rfl⟩
theorem UN:∃o,aT[18]? =some o∧o.op=.lookup 171 (.tmp 68) (.const (.int .i64 4)) false∧o.dst=some 69:=⟨_,rfl,rfl,rfl⟩
theorem UO:∃o,aT[19]? =some o∧o.op=.move (.tmp 7)∧o.dst=some 70:=⟨_,rfl,rfl,rfl⟩
theorem UQ:∃o,aT[20]? =some o∧o.op=.binOp .eql 9 (.tmp 70) (.const (.string ⟨#[117,115,116,97,114,32,32,0]⟩)) 9∧o.dst=some 71:=⟨_,rfl,rfl,rfl⟩
theorem UR:∃o,aT[21]? =some o∧o.op=.build 66 #[(0,.tmp 54),(1,.tmp 56),(2,.tmp 58),(3,.tmp 67),(4,.tmp 69),(5,.tmp 71)]∧o.dst=some 72:=⟨_,rfl,rfl,rfl⟩
theorem US:∃o,aT[22]? =some o∧o.op=.store 66 (.tmp 2) (.tmp 72)∧o.dst=none:=⟨_,rfl,rfl,rfl⟩
theorem Pq:∃o,aT[23]? =some o∧o.op=.assign (.const (.int .i64 0))∧o.dst=some 3:=⟨_,rfl,rfl,rfl⟩
theorem BV (w:World) (a b c d:Int):(Instr.build 46 #[(0,.int .i64 a),(1,.int .i64 b),(2,.int .i64 c),(3,.int .i64 d)]).run Tryz.prog w=.ok (.agg #[.int .i64 a,.int .i64 b,.int .i64 c,.int .i64 d]) w:=by kernel_rfl
theorem BU (w:World) (n l:ByteArray) (k a b c d s:Int) (g:Bool):(Instr.build 66 #[(0,.string n),(1,.string l),(2,.int .u8 k),(3,.agg #[.int .i64 a,.int .i64 b,.int .i64 c,.int .i64 d]),(4,.int .i64 s),(5,.bool g)]).run Tryz.prog w=.ok (.agg #[.string n,.string l,.int .u8 k,.int .i64 a,.int .i64 b,.int .i64 c,.int .i64 d,.int .i64 s,.bool g]) w:=by kernel_rfl
theorem IW {o:Oper} {a:Act} {K:Act→World→Prop} {Q:Exit→Act→World→Prop} (p x:Operand) (ho:o.op=.store 66 p x) (g:Nat) (hp:a.eval p=.pointer (some ⟨g,0,none⟩)) (n l:ByteArray) (k m u i t s:Int) (b:Bool)
 (hx:a.eval x=.agg #[.string n,.string l,.int .u8 k,.int .i64 m,.int .i64 u,.int .i64 i,.int .i64 t,.int .i64 s,.bool b]) (hz:w.heap[g]? =some (.cells gJ 66 (0,0)))
 (h:∀w',w'.heap[g]? =some (.cells #[.string n,.string l,.int .u8 k,.int .i64 m,.int .i64 u,.int .i64 i,.int .i64 t,.int .i64 s,.bool b] 66 (0,0))→Kept (aA g) w w'→K (a.put o.dst undef) w'):Oper.wp Tryz.prog o a w K Q:=by
 have c0:=ck hz;have f0:=fp hz;have A:=mU hz;have D:=qB (Kept.refl (aA g) w);unfold gJ at c0;clear hz
 have B:(execOp a.eval o).run Tryz.prog w=.ok .skip (((((((((w.setCell ⟨g,0,none⟩ (.string n)).setCell ⟨g,1,none⟩ (.string l)).setCell ⟨g,2,none⟩ (.int .u8 k)).setCell ⟨g,3,none⟩ (.int .i64 m)).setCell ⟨g,4,none⟩ (.int .i64 u)).setCell ⟨g,5,none⟩ (.int .i64 i)).setCell ⟨g,6,none⟩ (.int .i64 t)).setCell ⟨g,7,none⟩ (.int .i64 s)).setCell ⟨g,8,none⟩ (.bool b)):=by
  generalize a.eval=ev at hp hx;simp[go_sem,execOp,ho,hp,hx,c0,f0,Result.andThen]
 unfold Oper.wp;rw[B,Oper.upon_skip];exact h _ (A _ _ _ _ _ _ _ _ _) (D _ _ _ _ _ _ _ _ _)
theorem oX {Q':Exit→Act→World→Prop} {a0:Act} {w3:World} (g lo B Q:Nat) (r:Nat→Nat) (own:Nat→List UInt8) (mg:ByteArray) (fh:Bool) (v1 v2 v3 v4 v5:Int)
 (hsz:73≤a0.tmps.size) (h2:a0.eval (.tmp 2)=.pointer (some ⟨g,0,none⟩)) (h4:a0.eval (.tmp 4)=.map (some B)) (h7:a0.eval (.tmp 7)=.string mg) (h8:a0.eval (.tmp 8)=.map (some Q))
 (hP:aZ w3 lo B r own) (hBg:B≠g) (hrg:∀i,i<11→r i≠g) (hz:w3.heap[g]? =some (.cells gJ 66 (0,0)))
 (NA:∀w',Kept (aA g) w3 w'→(Instr.lookup 171 (.map (some Q)) (.int .i64 1) false).run Tryz.prog w'=.ok (.int .i64 v1) w'∧(Instr.lookup 171 (.map (some Q)) (.int .i64 2) false).run Tryz.prog w'=.ok (.int .i64 v2) w'∧
  (Instr.lookup 171 (.map (some Q)) (.int .i64 3) false).run Tryz.prog w'=.ok (.int .i64 v3) w'∧(Instr.lookup 171 (.map (some Q)) (.int .i64 4) false).run Tryz.prog w'=.ok (.int .i64 v4) w'∧(Instr.lookup 171 (.map (some Q)) (.int .i64 5) false).run Tryz.prog w'=.ok (.int .i64 v5) w')
 (uD:(mg.toList==[117,115,116,97,114,32,32,0])=fh)
 (hQ:∀a' w',a'.defers=a0.defers→a'.eval (.tmp 2)=.pointer (some ⟨g,0,none⟩)→a'.eval (.tmp 3)=.int .i64 0→
  w'.heap[g]? =some (.cells #[.string (str (kh (aF (own 10)) (aF (own 0)) fh)),.string (str (aF (own 8))),.int .u8 ((vN (own 7)).toNat:Int),.int .i64 v1,.int .i64 v2,.int .i64 v3,.int .i64 v5,.int .i64 v4,.bool fh] 66 (0,0))→Kept (aA g) w3 w'→Q' .normal a' w'):
 wpAny Tryz.prog .any aT Q' aT.size (Array.replicate aT.size false) a0 w3.drew:=by
 have no:∀j,(Array.replicate aT.size false).getD j false=false:=fun j=>by
  rw[Array.getD_eq_getD_getElem?,Array.getElem?_replicate];split<;>rfl
 obtain⟨nm,Z⟩:∃nm,nm=str (kh (aF (own 10)) (aF (own 0)) fh):=⟨_,rfl⟩
 obtain⟨ln,Y⟩:∃ln,ln=str (aF (own 8)):=⟨_,rfl⟩
 obtain⟨kd,l⟩:∃kd:Int,kd=((vN (own 7)).toNat:Int):=⟨_,rfl⟩
 rw[←Z,←Y,←l]at hQ;obtain⟨C,f⟩:∃C:Array Value,C=#[.string nm,.string ln,.int .u8 kd,.int .i64 v1,.int .i64 v2,.int .i64 v3,.int .i64 v5,.int .i64 v4,.bool fh]:=⟨_,rfl⟩
 rw[←f]at hQ;refine DZ (pV B Q mg nm ln fh kd v1 v2 v3 v4 v5) a0 (fun listed w=>Kept (aA g) w3 w∧w.heap[g]? =some (.cells (if listed.getD 22 false=true then C else gJ) 66 (0,0))) 73 Ah hsz ?_ ?_ ⟨(Kept.refl _ w3).drew,by rw[no];exact hz⟩
 ·intro listed a w j o h H m I
  have c:=bA m;obtain⟨hk,O⟩:=h.wd
  have cI:∀w',j≠22→Kept ag w w'→Kept (aA g) w3 w'∧w'.heap[g]? =some (.cells (if(listed.setIfInBounds j true).getD 22 false=true then C else gJ) 66 (0,0)):=fun w' X L=>by
   rw[ai c,if_neg (Ne.symm X)];exact⟨hk.trans (L.dZ _),L.some_ O id⟩
  have p:j<24:=by
   have:=(Array.getElem?_eq_some_iff.1 H).1
   rwa [tF]at this
  have N:aZ w lo B r own:=hP.kept hk hBg hrg;obtain⟨z,l2,l3,l4,l5⟩:=NA w hk;have same:∀{j':Nat} {E:Oper},aT[j']? =some E→j=j'→E=o:=fun {j' E} h' e=>by subst e;exact Option.some.inj (h'.symm.trans H)
  rcases(show j=0∨j=1∨j=2∨j=3∨j=4∨j=5∨j=6∨j=7∨j=8∨j=9∨j=10∨j=11∨j=12∨j=13∨j=14∨j=15∨j=16∨j=17∨j=18∨j=19∨j=20∨j=21∨j=22∨j=23 by omega)with rfl|rfl|rfl|rfl|rfl|rfl|rfl|rfl|rfl|rfl|rfl|rfl|rfl|rfl|rfl|rfl|rfl|rfl|rfl|rfl|rfl|rfl|rfl|rfl
  ·obtain⟨E,A,D,G⟩:=YC
   obtain rfl:=same A rfl;exact wp_move _ _ (Or.inl D) ((h.old (t:=4) (by kernel_rfl)).trans h4) ⟨rfl,cI w (by decide) (Kept.refl _ _)⟩
  ·obtain⟨E,A,D,G⟩:=YD
   obtain rfl:=same A rfl;exact wp_move _ _ (Or.inl D) ((h.old (t:=7) (by kernel_rfl)).trans h7) ⟨rfl,cI w (by decide) (Kept.refl _ _)⟩
  ·obtain⟨E,A,D,G⟩:=YE
   obtain rfl:=same A rfl;have e:=(h.get H I (i:=1) (d:=52) (by kernel_rfl) rfl)
   refine dQ (.bool fh) ?_ ⟨rfl,cI w (by decide) (Kept.refl _ _)⟩;have e:a.eval (.tmp 52)=.string mg:=e;have U:a.eval (.const (.string ⟨#[117,115,116,97,114,32,32,0]⟩))=.string ⟨#[117,115,116,97,114,32,32,0]⟩:=rfl;generalize a.eval=ev at e U⊢;simp[go_sem,execOp,D,e,U,uD]
  ·obtain⟨E,A,D,G⟩:=YF
   obtain rfl:=same A rfl;have J:a.eval (.tmp 51)=.map (some B):=(h.get H I (i:=0) (d:=51) (by kernel_rfl) rfl)
   have M:a.eval (.tmp 53)=.bool fh:=(h.get H I (i:=2) (d:=53) (by kernel_rfl) rfl)
   refine pe _ _ _ D #[.map (some B),.bool fh] (by simp[J,M]) (enters_of Tryz.func105 (by kernel_rfl) rfl) (.string nm) (fun w'=>Kept ag w w') ?_ (fun w' L=>⟨rfl,cI w' (by decide) L⟩);rw[Z];exact K9 lo B r own fh w N
  ·obtain⟨E,A,D,G⟩:=YG
   obtain rfl:=same A rfl;exact wp_move _ _ (Or.inl D) ((h.old (t:=4) (by kernel_rfl)).trans h4) ⟨rfl,cI w (by decide) (Kept.refl _ _)⟩
  ·obtain⟨E,A,D,G⟩:=YH
   obtain rfl:=same A rfl;have J:a.eval (.tmp 55)=.map (some B):=(h.get H I (i:=4) (d:=55) (by kernel_rfl) rfl)
   refine pe _ _ _ D #[.map (some B),.int .i64 8] (by simp[J,JZ]) (enters_of Tryz.func106 (by kernel_rfl) rfl) (.string ln) (fun w'=>Kept ag w w') ?_ (fun w' L=>⟨rfl,cI w' (by decide) L⟩);rw[Y];exact fO lo B r own 8 w (by omega) N
  ·obtain⟨E,A,D,G⟩:=YI
   obtain rfl:=same A rfl;exact wp_move _ _ (Or.inl D) ((h.old (t:=4) (by kernel_rfl)).trans h4) ⟨rfl,cI w (by decide) (Kept.refl _ _)⟩
  ·obtain⟨E,A,D,G⟩:=YJ
   obtain rfl:=same A rfl;have J:a.eval (.tmp 57)=.map (some B):=(h.get H I (i:=6) (d:=57) (by kernel_rfl) rfl)
   refine pe _ _ _ D #[.map (some B)] (by simp[J]) (enters_of Tryz.func107 (by kernel_rfl) rfl) (.int .u8 kd) (fun w'=>Kept ag w w') ?_ (fun w' L=>⟨rfl,cI w' (by decide) L⟩);rw[l];refine(KR lo B r own w N).mono ?_;rintro e w' ⟨rfl,rfl⟩;exact⟨rfl,Kept.refl _ _⟩
  ·obtain⟨E,A,D,G⟩:=pop8
   obtain rfl:=same A rfl;exact wp_move _ _ (Or.inl D) ((h.old (t:=8) (by kernel_rfl)).trans h8) ⟨rfl,cI w (by decide) (Kept.refl _ _)⟩
  ·obtain⟨E,A,D,G⟩:=YK
   obtain rfl:=same A rfl;exact mW _ _ _ D _ _ _ (h.get H I (i:=8) (d:=59) (by kernel_rfl) rfl) rfl z ⟨rfl,cI w (by decide) (Kept.refl _ _)⟩
  ·obtain⟨E,A,D,G⟩:=UF
   obtain rfl:=same A rfl;exact wp_move _ _ (Or.inl D) ((h.old (t:=8) (by kernel_rfl)).trans h8) ⟨rfl,cI w (by decide) (Kept.refl _ _)⟩
  ·obtain⟨E,A,D,G⟩:=UG
   obtain rfl:=same A rfl;exact mW _ _ _ D _ _ _ (h.get H I (i:=10) (d:=61) (by kernel_rfl) rfl) rfl l2 ⟨rfl,cI w (by decide) (Kept.refl _ _)⟩
  ·obtain⟨E,A,D,G⟩:=UH
   obtain rfl:=same A rfl;exact wp_move _ _ (Or.inl D) ((h.old (t:=8) (by kernel_rfl)).trans h8) ⟨rfl,cI w (by decide) (Kept.refl _ _)⟩
  ·obtain⟨E,A,D,G⟩:=UI
   obtain rfl:=same A rfl;exact mW _ _ _ D _ _ _ (h.get H I (i:=12) (d:=63) (by kernel_rfl) rfl) rfl l3 ⟨rfl,cI w (by decide) (Kept.refl _ _)⟩
  ·obtain⟨E,A,D,G⟩:=UJ
   obtain rfl:=same A rfl;exact wp_move _ _ (Or.inl D) ((h.old (t:=8) (by kernel_rfl)).trans h8) ⟨rfl,cI w (by decide) (Kept.refl _ _)⟩
  ·obtain⟨E,A,D,G⟩:=UK
   obtain rfl:=same A rfl;exact mW _ _ _ D _ _ _ (h.get H I (i:=14) (d:=65) (by kernel_rfl) rfl) rfl l5 ⟨rfl,cI w (by decide) (Kept.refl _ _)⟩
  ·obtain⟨E,A,D,G⟩:=UL
   obtain rfl:=same A rfl;have J:=(h.get H I (i:=9) (d:=60) (by kernel_rfl) rfl)
   have M:=(h.get H I (i:=11) (d:=62) (by kernel_rfl) rfl)
   have R:=(h.get H I (i:=13) (d:=64) (by kernel_rfl) rfl)
   have T:=(h.get H I (i:=15) (d:=66) (by kernel_rfl) rfl)
   refine dQ _ ?_ ⟨rfl,cI w (by decide) (Kept.refl _ _)⟩;have b:=BV w v1 v2 v3 v5;have J:a.eval (.tmp 60)=.int .i64 v1:=J;have M:a.eval (.tmp 62)=.int .i64 v2:=M;have R:a.eval (.tmp 64)=.int .i64 v3:=R;have T:a.eval (.tmp 66)=.int .i64 v5:=T;simp[execOp,D,J,M,R,T,b,Result.andThen,pV]
  ·obtain⟨E,A,D,G⟩:=UM
   obtain rfl:=same A rfl;exact wp_move _ _ (Or.inl D) ((h.old (t:=8) (by kernel_rfl)).trans h8) ⟨rfl,cI w (by decide) (Kept.refl _ _)⟩
  ·obtain⟨E,A,D,G⟩:=UN
   obtain rfl:=same A rfl;exact mW _ _ _ D _ _ _ (h.get H I (i:=17) (d:=68) (by kernel_rfl) rfl) rfl l4 ⟨rfl,cI w (by decide) (Kept.refl _ _)⟩
  ·obtain⟨E,A,D,G⟩:=UO
   obtain rfl:=same A rfl;exact wp_move _ _ (Or.inl D) ((h.old (t:=7) (by kernel_rfl)).trans h7) ⟨rfl,cI w (by decide) (Kept.refl _ _)⟩
  ·obtain⟨E,A,D,G⟩:=UQ
   obtain rfl:=same A rfl;have e:=(h.get H I (i:=19) (d:=70) (by kernel_rfl) rfl)
   refine dQ (.bool fh) ?_ ⟨rfl,cI w (by decide) (Kept.refl _ _)⟩;have e:a.eval (.tmp 70)=.string mg:=e;have U:a.eval (.const (.string ⟨#[117,115,116,97,114,32,32,0]⟩))=.string ⟨#[117,115,116,97,114,32,32,0]⟩:=rfl;generalize a.eval=ev at e U⊢;simp[go_sem,execOp,D,e,U,uD]
  ·obtain⟨E,A,D,G⟩:=UR
   obtain rfl:=same A rfl;have J:a.eval (.tmp 54)=.string nm:=(h.get H I (i:=3) (d:=54) (by kernel_rfl) rfl)
   have M:a.eval (.tmp 56)=.string ln:=(h.get H I (i:=5) (d:=56) (by kernel_rfl) rfl)
   have R:a.eval (.tmp 58)=.int .u8 kd:=(h.get H I (i:=7) (d:=58) (by kernel_rfl) rfl)
   have T:a.eval (.tmp 67)=.agg #[.int .i64 v1,.int .i64 v2,.int .i64 v3,.int .i64 v5]:=(h.get H I (i:=16) (d:=67) (by kernel_rfl) rfl)
   have q:a.eval (.tmp 69)=.int .i64 v4:=(h.get H I (i:=18) (d:=69) (by kernel_rfl) rfl)
   have u:a.eval (.tmp 71)=.bool fh:=(h.get H I (i:=20) (d:=71) (by kernel_rfl) rfl)
   refine dQ _ ?_ ⟨rfl,cI w (by decide) (Kept.refl _ _)⟩;have b:=BU w nm ln kd v1 v2 v3 v5 v4 fh;simp[execOp,D,J,M,R,T,q,u,b,Result.andThen,pV]
  ·obtain⟨E,A,D,G⟩:=US
   obtain rfl:=same A rfl;have J:=(h.old (t:=2) (by kernel_rfl)).trans h2;have M:=(h.get H I (i:=21) (d:=72) (by kernel_rfl) rfl)
   have W:w.heap[g]? =some (.cells gJ 66 (0,0)):=by rw[fq m]at O;exact O
   refine IW _ _ D g J nm ln kd v1 v2 v3 v5 v4 fh M W (fun w' y L=>⟨rfl,hk.trans L,?_⟩);rw[ai c,if_pos rfl,if_pos rfl,f];exact y
  ·obtain⟨E,A,D,G⟩:=Pq
   obtain rfl:=same A rfl;exact wp_move _ _ (Or.inr D) rfl ⟨rfl,cI w (by decide) (Kept.refl _ _)⟩
 ·intro listed a w h V
  have all:∀j,j<24→listed.getD j false=true:=fun j X=>V j (by rw[tF];exact X)
  obtain⟨hk,O⟩:=h.wd;rw[all 22 (by omega),if_pos rfl]at O;obtain⟨E,A,_,G⟩:=Pq;exact hQ a w h.df ((h.old (t:=2) (by kernel_rfl)).trans h2) (h.done 23 E 3 A G (all 23 (by omega))) O hk
end Head
namespace Head
open Hp Go.Proofs.YtdhibldkldlfpaaGreatDoor.Mp Fp Go.Proofs.YtdhibldkldlfpaaGreatDoor.Field
theorem gB (p:Option Addr) (n c:Nat) (bs:List UInt8) (w:World) (hn:bs.length=n) (hc:n≤c) (sO:c≤maxLen) (h:cB w p n bs):
 Calls Tryz.prog 74 #[.slice p n c] w fun e w'=>e=.returned (j8 (ba bs))∧Kept ag w w':=by
 have hm:c≤9223372036854775807:=by unfold maxLen at sO;omega
 have fl:=gn;have L:=Qh hn;have H:=Qh h;clear h hn
 by_cases Qu:n=512
 ·subst Qu
  obtain⟨g,z⟩:∃g,g=w.heap.size:=⟨_,rfl⟩
  obtain⟨R,u⟩:∃R,R=w.alloc (.cells #[.string ⟨#[]⟩,.string ⟨#[]⟩,.int .u8 0,.int .i64 0,.int .i64 0,.int .i64 0,.int .i64 0,.int .i64 0,.bool false] 66):=⟨_,rfl⟩
  have I:Hid (Kept ag w R):=Qh (by rw[u];exact(Kept.refl ag w).alloc _);have yE:Hid (R.heap[g]? =some (.cells gJ 66 (0,0))):=Qh (by rw[u,z];exact heap_alloc_new w _);have YV:Hid (g<R.heap.size):=Qh (Array.getElem?_eq_some_iff.1 yE.out).1;have Sy:Hid (g=w.heap.size):=Qh z;have T:Hid (w.heap.size≤g):=Qh (by omega)
  go_enter Tryz.func74,Tryz.ntmps74
  go_wp2_with fail
  rw[←u,←z];clear u z;refine(Lx p c bs R L.out hc (by unfold maxLen;omega) (H.out.kept I.out (fun _ _ _=>id))).mono ?_;obtain⟨M,QO⟩:∃M,M=R.heap.size:=⟨_,rfl⟩
  have Mf:Hid (M=R.heap.size):=Qh QO;rw[←QO];clear QO;rintro e w1 ⟨B,r,rfl,WZ,dR⟩;have Fv:=Qh WZ;have fB:=Qh dR;have lk6:(Instr.lookup 166 (.map (some B)) (.int .i64 6) false).run Tryz.prog w1=.ok (.agg #[.int .i64 148,.slice (some ⟨r 6,0,none⟩) 8 8]) w1:=Pn WZ 6 (by omega);clear WZ dR;go_wp2_with fail;refine(we _ 8 8 (cZ bs 6) w1 (Fv.out.fit 6) (Qk _) (by decide) (Fv.out.gZ (i:=6) (by omega))).mono ?_;rintro e w2 ⟨rfl,bZ⟩;have dc:Kept ag w1 w2:=Kept.aS bZ _;have O:=Qh (Fv.out.cJ dc);have N:=Qh (fB.out.trans dc);have D:=Qh (N.out.some_ yE.out id);clear bZ dc lk6;rw[mh bs 6 (by omega)]
  cases xG:bp (au bs 6)with
  |none=>
   have E:Hid (ba bs=(bG,3)):=Qh (vH L.out (by rw[xG];simp));rw[Ov,NZ];have c0:=ck D.out;have f0:=fp D.out;unfold gJ at c0;clear xG;go_wp2;refine bodyPost_ret (gX rfl _ _ g _ rfl rfl ⟨#[]⟩ ⟨#[]⟩ 0 0 0 0 0 0 false (mU D.out _ _ _ _ _ _ _ _ _)) rfl ?_;rw[E.out]
   exact⟨rfl,(I.out.trans N.out).then (qB (Kept.refl (aA g) _) _ _ _ _ _ _ _ _ _) (fun i hi=>Or.inl (by
    have h1:i=g:=hi;rw[h1]
    exact T.out))⟩
  |some sm=>
   rw[Ow,N4];have lQ:=wT (bs:=bs);have Yd:=jk bs 512;have Yj:=o9 bs 512;have hpf:=jk (au bs 6) 8;obtain⟨X,hX⟩:∃X:Int,X=(dN bs 512:Nat):=⟨_,rfl⟩
   have hS:((br bs 512:Nat):Int) - (br (cZ bs 6) 8:Nat)+256=X:=by
    rw[mh bs 6 (by omega),hX];omega
   have HS:=Qh hS;have HX:=Qh hX;have SL:=Qh xG;have OV:cB w2 p 512 bs:=(H.out.kept I.out (fun _ _ _=>id)).kept N.out (fun _ _ _=>id);have bI:=Qh OV;clear lQ Yd Yj hpf hX hS xG OV
   by_cases Yh:sm=X
   ·subst Yh
    have d:Hid (bp (au bs 6)=some (dN bs 512:Int)):=Qh (by rw[SL.out,HX.out]);have hbX:(sm==sm)=true:=by simp
    go_wp2_with fail
    refine(yq M B r (cZ bs) p 512 c bs w2 (by omega) bI.out O.out).mono ?_;rintro e w2' ⟨rfl,rfl⟩;rw[HS.out];have lk9:(Instr.lookup 166 (.map (some B)) (.int .i64 9) false).run Tryz.prog w2=.ok (.agg #[.int .i64 257,.slice (some ⟨r 9,0,none⟩) 8 8]) w2:=Pn O.out 9 (by omega)
    have Zi:(convert 26 9 (.slice (some ⟨r 9,0,none⟩) 8 8)).run Tryz.prog w2=.ok (.string (str (au bs 9))) w2:=by
     have:=cD (P:=Tryz.prog) (O.out.gZ (i:=9) (by omega)) (O.out.fit 9) 26 5 9 Tryz.underlying26 Tryz.underlying5 Tryz.underlying9 8;rw[mh bs 9 (by omega)]at this;exact this
    by_cases hu:au bs 9=ez
    ·have t:Hid (au bs 9=ez∨au bs 9=qX):=Qh (Or.inl hu)
     have QW:=hu;rw[hu,wW]at Zi;clear hu;have b:Hid (qt bs=false):=Qh (by rw[qt,QW];decide);go_wp2_with fail;refine(qH M B r (cZ bs) w2 O.out).mono ?_;intro e w3 m;obtain⟨A,(⟨q,Q,rfl,U⟩|⟨o,rfl⟩)⟩:=m
     ·have HT:Hid (ba bs=(iK bs,0)):=Qh (sK L.out d.out t.out (by rw[←kQ];exact q))
      have W:=Qh (N.out.trans A);have G:=Qh (A.some_ D.out id);have Y:=Qh (O.out.cJ A);have SN:=Qh U
      have f:Q≠g∧B≠g∧∀i,i<11→r i≠g:=by
       have l:=YV.out;have m:=Mf.out;refine⟨fun e=>?_,fun e=>?_,fun i hi e=>?_⟩
       ·obtain⟨es,clock,y,_⟩:=U
        have h1:=G.out;rw[←e,y]at h1
        cases h1
       ·have h1:=Y.out.lo.1
        omega
       ·have h1:=Y.out.lo.2 i hi
        omega
      have V:=Qh f;clear f
      have Px:Hid (∀w',Kept (aA g) w3 w'→
       (Instr.lookup 171 (.map (some Q)) (.int .i64 1) false).run Tryz.prog w'=.ok (.int .i64 (dO bs 1)) w'∧
       (Instr.lookup 171 (.map (some Q)) (.int .i64 2) false).run Tryz.prog w'=.ok (.int .i64 (dO bs 2)) w'∧
       (Instr.lookup 171 (.map (some Q)) (.int .i64 3) false).run Tryz.prog w'=.ok (.int .i64 (dO bs 3)) w'∧
       (Instr.lookup 171 (.map (some Q)) (.int .i64 4) false).run Tryz.prog w'=.ok (.int .i64 (dO bs 4)) w'∧
       (Instr.lookup 171 (.map (some Q)) (.int .i64 5) false).run Tryz.prog w'=.ok (.int .i64 (dO bs 5)) w'):=Qh (fun w' hk=>by
       have hq:=SN.out.kept hk V.out.1
       have J:∀i,1≤i→i≤5→(Instr.lookup 171 (.map (some Q)) (ka i) false).run Tryz.prog w'=.ok (.int .i64 (dO bs i)) w':=fun i h1 l=>
        hq.look (P:=Tryz.prog) Tryz.underlying171 Tryz.underlying170 (by rw[oS _ h1 l,mh bs i (by omega)];rfl)
       exact⟨J 1 (by omega) (by omega),J 2 (by omega) (by omega),J 3 (by omega) (by omega),J 4 (by omega) (by omega),J 5 (by omega) (by omega)⟩)
      clear A q U;go_wp2_with fail;refine wp_region_any (by kernel_rfl) (oX (w3:=w3) g M B Q r (cZ bs) ⟨#[117,115,116,97,114,0,48,48]⟩ false (dO bs 1) (dO bs 2) (dO bs 3) (dO bs 4) (dO bs 5) (show 73≤73 from Qk 73) rfl rfl rfl rfl Y.out V.out.2.1 V.out.2.2 G.out (fun w' hk=>Px.out w' hk) (by rw[←wW,ay];decide) ?_);intro a' w' XB qY OP fX ju;have hT:(iK bs).fh=false:=b.out
      have PE:Hid (j8 (ba bs)=.tuple #[.agg #[.string (str (kh (aF (cZ bs 10)) (aF (cZ bs 0)) false)),.string (str (aF (cZ bs 8))),.int .u8 ((vN (cZ bs 7)).toNat:Int),.int .i64 (dO bs 1),.int .i64 (dO bs 2),.int .i64 (dO bs 3),.int .i64 (dO bs 5),.int .i64 (dO bs 4),.bool false],.int .i64 0]):=Qh (by
       rw[HT.out];simp only[j8,aa,iK,b.out]
       rfl)
      simp only[Exit.then]
      apply_assumption
      go_wp2;refine bodyPost_ret (gX rfl _ _ g (.int .i64 0) qY OP _ _ _ _ _ _ _ _ _ fX) XB ?_;rw[PE.out]
      exact⟨rfl,(I.out.trans W.out).then ju (fun i hi=>Or.inl (by
       have h1:i=g:=hi;rw[h1]
       exact T.out))⟩
     ·have E:Hid (ba bs=(bG,4)):=Qh (vG L.out d.out t.out (by rw[←kQ];exact o))
      have W:=Qh (N.out.trans A);have G:=Qh (A.some_ D.out id);have c0:=ck G.out;have f0:=fp G.out;unfold gJ at c0;clear A o;go_wp2;refine bodyPost_ret (gX rfl _ _ g _ rfl rfl ⟨#[]⟩ ⟨#[]⟩ 0 0 0 0 0 0 false (mU G.out _ _ _ _ _ _ _ _ _)) rfl ?_;rw[E.out]
      exact⟨rfl,(I.out.trans W.out).then (qB (Kept.refl (aA g) _) _ _ _ _ _ _ _ _ _) (fun i hi=>Or.inl (by
       have h1:i=g:=hi;rw[h1]
       exact T.out))⟩
    ·by_cases Z:au bs 9=qX
     ·have t:Hid (au bs 9=ez∨au bs 9=qX):=Qh (Or.inr Z)
      have QW:=Z;rw[Z,Eu]at Zi;clear hu Z;have b:Hid (qt bs=true):=Qh (by rw[qt,QW];decide);go_wp2_with fail;refine(qH M B r (cZ bs) w2 O.out).mono ?_;intro e w3 m;obtain⟨A,(⟨q,Q,rfl,U⟩|⟨o,rfl⟩)⟩:=m
      ·have HT:Hid (ba bs=(iK bs,0)):=Qh (sK L.out d.out t.out (by rw[←kQ];exact q))
       have W:=Qh (N.out.trans A);have G:=Qh (A.some_ D.out id);have Y:=Qh (O.out.cJ A);have SN:=Qh U
       have f:Q≠g∧B≠g∧∀i,i<11→r i≠g:=by
        have l:=YV.out;have m:=Mf.out;refine⟨fun e=>?_,fun e=>?_,fun i hi e=>?_⟩
        ·obtain⟨es,clock,y,_⟩:=U
         have h1:=G.out;rw[←e,y]at h1
         cases h1
        ·have h1:=Y.out.lo.1
         omega
        ·have h1:=Y.out.lo.2 i hi
         omega
       have V:=Qh f;clear f
       have Px:Hid (∀w',Kept (aA g) w3 w'→
        (Instr.lookup 171 (.map (some Q)) (.int .i64 1) false).run Tryz.prog w'=.ok (.int .i64 (dO bs 1)) w'∧
        (Instr.lookup 171 (.map (some Q)) (.int .i64 2) false).run Tryz.prog w'=.ok (.int .i64 (dO bs 2)) w'∧
        (Instr.lookup 171 (.map (some Q)) (.int .i64 3) false).run Tryz.prog w'=.ok (.int .i64 (dO bs 3)) w'∧
        (Instr.lookup 171 (.map (some Q)) (.int .i64 4) false).run Tryz.prog w'=.ok (.int .i64 (dO bs 4)) w'∧
        (Instr.lookup 171 (.map (some Q)) (.int .i64 5) false).run Tryz.prog w'=.ok (.int .i64 (dO bs 5)) w'):=Qh (fun w' hk=>by
        have hq:=SN.out.kept hk V.out.1
        have J:∀i,1≤i→i≤5→(Instr.lookup 171 (.map (some Q)) (ka i) false).run Tryz.prog w'=.ok (.int .i64 (dO bs i)) w':=fun i h1 l=>
         hq.look (P:=Tryz.prog) Tryz.underlying171 Tryz.underlying170 (by rw[oS _ h1 l,mh bs i (by omega)];rfl)
        exact⟨J 1 (by omega) (by omega),J 2 (by omega) (by omega),J 3 (by omega) (by omega),J 4 (by omega) (by omega),J 5 (by omega) (by omega)⟩)
       clear A q U;go_wp2_with fail;refine wp_region_any (by kernel_rfl) (oX (w3:=w3) g M B Q r (cZ bs) ⟨#[117,115,116,97,114,32,32,0]⟩ true (dO bs 1) (dO bs 2) (dO bs 3) (dO bs 4) (dO bs 5) (show 73≤73 from Qk 73) rfl rfl rfl rfl Y.out V.out.2.1 V.out.2.2 G.out (fun w' hk=>Px.out w' hk) (by rw[←Eu,ay];decide) ?_);intro a' w' XB qY OP fX ju;have hT:(iK bs).fh=true:=b.out
       have PE:Hid (j8 (ba bs)=.tuple #[.agg #[.string (str (kh (aF (cZ bs 10)) (aF (cZ bs 0)) true)),.string (str (aF (cZ bs 8))),.int .u8 ((vN (cZ bs 7)).toNat:Int),.int .i64 (dO bs 1),.int .i64 (dO bs 2),.int .i64 (dO bs 3),.int .i64 (dO bs 5),.int .i64 (dO bs 4),.bool true],.int .i64 0]):=Qh (by
        rw[HT.out];simp only[j8,aa,iK,b.out]
        rfl)
       simp only[Exit.then]
       apply_assumption
       go_wp2;refine bodyPost_ret (gX rfl _ _ g (.int .i64 0) qY OP _ _ _ _ _ _ _ _ _ fX) XB ?_;rw[PE.out]
       exact⟨rfl,(I.out.trans W.out).then ju (fun i hi=>Or.inl (by
        have h1:i=g:=hi;rw[h1]
        exact T.out))⟩
      ·have E:Hid (ba bs=(bG,4)):=Qh (vG L.out d.out t.out (by rw[←kQ];exact o))
       have W:=Qh (N.out.trans A);have G:=Qh (A.some_ D.out id);have c0:=ck G.out;have f0:=fp G.out;unfold gJ at c0;clear A o;go_wp2;refine bodyPost_ret (gX rfl _ _ g _ rfl rfl ⟨#[]⟩ ⟨#[]⟩ 0 0 0 0 0 0 false (mU G.out _ _ _ _ _ _ _ _ _)) rfl ?_;rw[E.out]
       exact⟨rfl,(I.out.trans W.out).then (qB (Kept.refl (aA g) _) _ _ _ _ _ _ _ _ _) (fun i hi=>Or.inl (by
        have h1:i=g:=hi;rw[h1]
        exact T.out))⟩
     ·have E:Hid (ba bs=(bG,9)):=Qh (Cq L.out d.out ⟨hu,Z⟩)
      have q1:((str (au bs 9)).toList==[117,115,116,97,114,0,48,48])=false:=by rw[ay];exact beq_eq_false_iff_ne.2 hu
      have q2:((str (au bs 9)).toList==[117,115,116,97,114,32,32,0])=false:=by rw[ay];exact beq_eq_false_iff_ne.2 Z
      have c0:=ck D.out;have f0:=fp D.out;unfold gJ at c0;clear hu Z;go_wp2;refine bodyPost_ret (gX rfl _ _ g _ rfl rfl ⟨#[]⟩ ⟨#[]⟩ 0 0 0 0 0 0 false (mU D.out _ _ _ _ _ _ _ _ _)) rfl ?_;rw[E.out]
      exact⟨rfl,(I.out.trans N.out).then (qB (Kept.refl (aA g) _) _ _ _ _ _ _ _ _ _) (fun i hi=>Or.inl (by
       have h1:i=g:=hi;rw[h1]
       exact T.out))⟩
   ·have E:Hid (ba bs=(bG,3)):=Qh (vH L.out (by
     rw[SL.out,←HX.out];intro e
     exact Yh (Option.some.inj e)))
    have hbX:(sm==X)=false:=by simpa using Yh
    have c0:=ck D.out;have f0:=fp D.out;unfold gJ at c0;go_wp2_with fail;refine(yq M B r (cZ bs) p 512 c bs w2 (by omega) bI.out O.out).mono ?_;rintro e w2' ⟨rfl,rfl⟩;rw[HS.out];go_wp2;refine bodyPost_ret (gX rfl _ _ g _ rfl rfl ⟨#[]⟩ ⟨#[]⟩ 0 0 0 0 0 0 false (mU D.out _ _ _ _ _ _ _ _ _)) rfl ?_;rw[E.out]
    exact⟨rfl,(I.out.trans N.out).then (qB (Kept.refl (aA g) _) _ _ _ _ _ _ _ _ _) (fun i hi=>Or.inl (by
     have h1:i=g:=hi;rw[h1]
     exact T.out))⟩
 ·have E:Hid (ba bs=(bG,1)):=Qh (GN (by rw[L.out];exact Qu))
  have y:((n:Int)==512)=false:=by simp;omega
  have eA:Kept ag w (w.alloc (.cells #[.string ⟨#[]⟩,.string ⟨#[]⟩,.int .u8 0,.int .i64 0,.int .i64 0,.int .i64 0,.int .i64 0,.int .i64 0,.bool false] 66)):=(Kept.refl ag w).alloc _;have I:=Qh eA;clear eA
  go_enter Tryz.func74,Tryz.ntmps74
  go_wp2;refine bodyPost_ret (gX rfl _ _ w.heap.size _ rfl rfl ⟨#[]⟩ ⟨#[]⟩ 0 0 0 0 0 0 false (heap_alloc_new _ _)) rfl ?_;rw[E.out];exact⟨rfl,I.out⟩
end Head
end Go.Proofs.YtdhibldkldlfpaaGreatDoor
