/- Merged. -/
import Derived.Test.YtdhibldkldlfpaaGreatDoorEmitSortedX11
import Derived.Deep.RegionHeldLaw
import Derived.Laws.AppendOwnNone
import Derived.Test.YtdhibldkldlfpaaGreatDoorEmitSortedX21
import Derived.Test.YtdhibldkldlfpaaGreatDoorEmitSortedX20
namespace Go.Proofs.YtdhibldkldlfpaaGreatDoor
set_option linter.unusedVariables false
set_option maxHeartbeats 4000000
set_option maxRecDepth 100000
open Go.ChangeShapes Go.WideShapes Go.ChangeAt Go.RowKit Base bM cr Go.Lib
variable {B g j:Nat} {v:Value} {w:World}
namespace Rec
open Path
variable {rs:List (List UInt8 × List UInt8)}
def dE (rs:List (List UInt8 × List UInt8)):List Value:=rs.flatMap fun r=>[.string (str r.1),.string (str r.2)]
theorem oE (rs:List (List UInt8 × List UInt8)):(dE rs).length=2*rs.length:=by
 induction rs with
 |nil=>rfl
 |cons r rs ih=>simp only[dE,List.flatMap_cons,Qf,List.length_cons,List.length_nil]at ih⊢;omega
theorem Cw (rs:List (List UInt8 × List UInt8)) (k v:List UInt8):dE (rs++[(k,v)])=dE rs++[.string (str k),.string (str v)]:=by simp[dE]
theorem vP (rs:List (List UInt8 × List UInt8)):∀i,i<rs.length→(dE rs)[2*i]? =some (.string (str (rs.getD i ([],[])).1))∧(dE rs)[2*i+1]? =some (.string (str (rs.getD i ([],[])).2)):=by
 induction rs with
 |nil=>intro i h;simp at h
 |cons r rs ih=>
  intro i h
  cases i with
  |zero=>exact⟨rfl,rfl⟩
  |succ i=>
   have:=ih i (by simpa using h);have e:dE (r::rs)=.string (str r.1)::.string (str r.2)::dE rs:=rfl;rw[e,show 2*(i+1)=2*i+1+1 by omega]
   simpa using this
def cf (w:World) (p:Option Addr) (n:Nat) (rs:List (List UInt8 × List UInt8)):Prop:=
 rs.length=n∧(0<n→∃b o,p=some ⟨b,o,none⟩∧b<w.heap.size∧∀i,i<n→w.cell? ⟨b,o+2*i,none⟩=some (.string (str (rs.getD i ([],[])).1))∧w.cell? ⟨b,o+2*i+1,none⟩=some (.string (str (rs.getD i ([],[])).2)))
theorem cf.below {w':World} {p:Option Addr} {n:Nat} (h:cf w p n rs) (hb:Below w.heap.size w w'):cf w' p n rs:=by
 refine⟨h.1,fun B=>?_⟩;obtain⟨b,o,rfl,A,hc⟩:=h.2 B;refine⟨b,o,rfl,Nat.lt_of_lt_of_le A hb.size,fun i hi=>⟨?_,?_⟩⟩
 ·rw[hb.cell (p:=⟨b,o+2*i,none⟩) A];exact(hc i hi).1
 ·rw[hb.cell (p:=⟨b,o+2*i+1,none⟩) A];exact(hc i hi).2
theorem ml {base:Nat} {e:TypeId} (h:w.ownsRow base e 2 v rs.length (dE rs)):∃p c,v=.slice p rs.length c∧rs.length≤c∧c≤maxLen∧cf w p rs.length rs:=by
 rcases h.2 with⟨rfl,A⟩|⟨g,cap,cur,rfl,hb,hg,hn,hc,hs,ht⟩
 ·exact⟨none,0,by rw[A],by omega,by decide,rfl,fun h=>by omega⟩
 ·refine⟨some ⟨g,0,none⟩,cap,rfl,hn,hc,rfl,fun A=>⟨g,0,rfl,(Array.getElem?_eq_some_iff.1 hg).1,fun i hi=>?_⟩⟩
  have get:∀j,j<2*rs.length→w.cell? ⟨g,j,none⟩=(dE rs)[j]? :=fun j B=>by
   unfold World.cell?;rw[hg,←ht,List.getElem?_take,if_pos (by omega)];simp
  obtain⟨g1,g2⟩:=vP rs i hi;rw[Nat.zero_add];exact⟨by rw[get _ (by omega)];exact g1,by rw[get _ (by omega)];exact g2⟩
theorem E9:(Tryz.prog.info? 121).map (fun i=>(i.zero,i.size,i.bytes))=some (some (.agg #[.string ⟨#[]⟩,.string ⟨#[]⟩]),2,32):=by kernel_rfl
theorem EA (l:List UInt8):∀k,k≤l.length→(∀j,j<k→bj (l.getD j 0)=true)→(k=l.length∨bj (l.getD k 0)=false)→gu l=k:=by
 unfold gu
 induction l with
 |nil=>intro k h _ _;simp at h;simp[h]
 |cons b l ih=>
  intro k hk hd he
  cases k with
  |zero=>
   rcases he with h|h
   ·simp at h
   ·rw[List.takeWhile_cons,show bj b=false from h];rfl
  |succ k=>
   have A:bj b=true:=hd 0 (by omega);rw[List.takeWhile_cons,A,if_pos rfl,List.length_cons,ih k (by simpa using hk) (fun j B=>by simpa using hd (j+1) (by omega)) (by simpa using he)]
theorem RM (l:List UInt8):∀b∈l.takeWhile bj,bj b=true:=by
 induction l with
 |nil=>simp
 |cons c l ih=>
  intro b A;rw[List.takeWhile_cons]at A;split at A
  ·next h=>
   rcases List.mem_cons.1 A with rfl|h1
   ·exact h
   ·exact ih b h1
  ·cases A
theorem GD (l:List UInt8):gu l≤l.length∧∀b∈l.take (gu l),bj b=true:=by
 unfold gu;have B:l.takeWhile bj<+:l:=List.takeWhile_prefix _;refine⟨B.length_le,fun b A=>?_⟩;rw[←List.prefix_iff_eq_take.1 B]at A;exact RM l b A
end Rec
namespace Rec
theorem GU (a b:List (List UInt8 × List UInt8)):dE (a++b)=dE a++dE b:=by simp[dE]
theorem GV (rs:List (List UInt8 × List UInt8)):∀u∈dE rs,u.oneCell'=true:=by
 intro u hu;obtain⟨r,_,hr⟩:=List.mem_flatMap.1 hu;rcases List.mem_cons.1 hr with rfl|hr
 ·rfl
 ·rcases List.mem_cons.1 hr with rfl|hr
  ·rfl
  ·cases hr
theorem zl {P:Program} {ops:Array Oper} {rest:List Oper} {o:Oper} {a:Act} {Q:Exit→Act→World→Prop} (uF:o.guard=none) (s x:Operand) (t:TypeId)
 (ho:o.op=.call {callee:=.builtin .append,args:=#[s,x],argTypes:=#[t,t]})
 (base:Nat) (e:TypeId) (i:TypeInfo) (z:Value) (ht:P.underlying t=some (.slice e)) (hi:P.info? e=some i) (hz:i.zero=some z) (eU:i.size=2) (rp:i.bytes=32) (RD:z.cells.size=2)
 (v:Value) (n:Nat) (xs:List (List UInt8 × List UInt8)) (hs:a.eval s=v) (bt:w.ownsRow base e 2 v n (dE xs))
 (p:Option Addr) (m c:Nat) (rs:List (List UInt8 × List UInt8)) (hx:a.eval x=.slice p m c) (hb:cf w p m rs) (lT:(n+m)*32≤140737488355328) (fx:base≤w.heap.size)
 (h:∀v' w',w'.ownsRow base e 2 v' (n+m) (dE (xs++rs))→w.grownBy w' v.ownBlock→wpList P ops Q rest (a.put o.dst v') w'):wpList P ops Q (o::rest) a w:=by
 have hl:=hb.1;rcases p with _|ad
 ·have hm:m=0:=by
   rcases Nat.eq_zero_or_pos m with h0|h0
   ·exact h0
   ·obtain⟨_,_,he,_⟩:=hb.2 h0
    cases he
  subst hm;obtain rfl:rs=[]:=List.eq_nil_of_length_eq_zero hl
  have B:(Builtin.append_ #[t,t] o.type #[v,.slice none 0 c]).run P w=.ok v w:=by
   rcases bt.2 with⟨rfl,rfl⟩|⟨g,cap,cur,rfl,_,_,Hc,_⟩
   ·simp[Builtin.append_,run_underlying ht,sizeOf,typeInfo,hi,Builtin.lenOf,Builtin.firstCells]
   ·simp[Builtin.append_,run_underlying ht,sizeOf,typeInfo,hi,Builtin.lenOf,Builtin.firstCells,Hc,storeCells]
  refine wpList_plain uF fun K E=>?_
  unfold Oper.wp;simp[execOp,ho,resolve,invoke,builtin,hs,hx,B,Result.andThen];exact E _ _ (h v w (by simpa using bt) (World.grownBy.refl w _))
 ·refine wpList_append_own w uF s x t ho base e i z 2 32 ht hi hz eU rp RD (by decide) v n (dE xs) hs bt ad m c (dE rs) hx (by rw[oE,hl];omega) ?_ (GV rs) (by unfold maxLen;omega) lT fx ?_
  ·intro j u A
   have G:j<2*m:=by
    have:=(List.getElem?_eq_some_iff.1 A).1;rw[oE,hl]at this;exact this
   obtain⟨b,off,he,_,hc⟩:=hb.2 (by omega)
   cases he
   obtain⟨c0,c1⟩:=hc (j / 2) (by omega);obtain⟨g0,g1⟩:=vP rs (j / 2) (by omega);rw[WideShapes.add_plain];rcases Nat.mod_two_eq_zero_or_one j with EU|EU
   ·have e:j=2*(j / 2):=by omega
    rw[e]at A;rw[g0]at A
    cases A
    rw[show off+j=off+2*(j / 2) by omega];exact c0
   ·have e:j=2*(j / 2)+1:=by omega
    rw[e]at A;rw[g1]at A
    cases A
    rw[show off+j=off+2*(j / 2)+1 by omega];exact c1
  ·intro v' w' h1 D _
   rw[←GU]at h1;exact h v' w' h1 D
end Rec
namespace Head
open Hp Go.Proofs.YtdhibldkldlfpaaGreatDoor.Mp
variable {R:Nat} {todo:Nat→Bool} {a b:Nat→List UInt8} {f:Nat→Option Value}
theorem jf {bs:List UInt8} (h:fZ w B R f todo) (hr:eC w g bs):g≠B∧g≠R:=by
 obtain⟨es,clock,since,seen,c0,D,hs,h1,E,A,_⟩:=h;unfold eC at hr;refine⟨fun e=>?_,fun e=>?_⟩
 ·rw[e,D]at hr;cases hr
 ·rw[e,A]at hr;cases hr
theorem Fa (h:fZ w B R f todo) (e:B=R):False:=by
 obtain⟨es,clock,since,seen,c0,D,hs,h1,E,A,_⟩:=h;rw[←e,D]at A
 cases A
def jk (todo:Nat→Bool) (a b:Nat→List UInt8):Nat→List UInt8:=fun i=>if todo i=true then a i else b i
theorem Au (ha:Fits a) (hb:Fits b):Fits (jk todo a b):=fun i=>by
 unfold jk;split
 ·exact ha i
 ·exact hb i
theorem As (ha:Fits a) (hb:Fits b) (h:∀i,i<11→todo i=false):jk todo a b=b:=
 zI (Au ha hb) hb fun i hi=>by unfold jk;rw[if_neg (by simp[h i hi])]
theorem tD (j:Nat):Bz (jk todo a b) j (b j)=jk (fun z=>todo z&&z != j) a b:=by
 funext i
 by_cases hi:i=j
 ·subst hi
  rw[mD,jk,if_neg (by simp)]
 ·rw[iV _ _ hi,jk,jk]
  have:(i != j)=true:=by simpa using hi
  simp[this]
theorem wN (r:Nat→Nat):∀j v,iz r j=some v→v=cM r j:=fun j v h=>by
 unfold iz at h;split at h
 ·exact(Option.some.inj h).symm
 ·cases h
theorem AF {r:Nat→Nat} (h:iz r j=some v):j<11:=by
 unfold iz at h;split at h
 ·assumption
 ·cases h
theorem C0:(Tryz.prog.info? 5).map (·.size)=some 1:=by kernel_rfl
theorem jN {old cs:List UInt8} (h:cs.length=old.length):fr old cs=cs:=by
 simp[fr,List.drop_eq_nil_of_le (show old.length≤cs.length by omega)]
theorem gD (lo B:Nat) (r:Nat→Nat) (own:Nat→List UInt8) (i:Nat) (s:ByteArray) (w:World) (hi:i<11) (hP:aZ w lo B r own):
 Calls Tryz.prog 159 #[.map (some B),.int .i64 (i:Int),.string s] w fun e w'=>e=.returned (.tuple #[])∧aZ w' lo B r (Bz own i (fr (own i) (s.data.toList.take (aj i))))∧Kept (aA (r i)) w w'∧w'.heap.size=w.heap.size:=by
 have H:=gv
 have I:(Instr.lookup 166 (.map (some B)) (.int .i64 (i:Int)) false).run Tryz.prog w=.ok (.agg #[.int .i64 (fF i),.slice (some ⟨r i,0,none⟩) (aj i) (aj i)]) w:=
  hP.map.look (P:=Tryz.prog) Tryz.underlying166 Tryz.underlying170 (x:=i) (v:=cM r i) (by unfold iz;rw[if_pos hi])
 have A:=hP.fit i;have D:=Qh hP;obtain⟨cs,hcs⟩:∃cs,cs=s.data.toList.take (aj i):=⟨_,rfl⟩
 have E:cs.length≤aj i:=by rw[hcs,Qg];omega
 have HC:=Qh hcs;rw[←hcs];clear hP hcs
 go_enter Tryz.func159,Tryz.ntmps159
 go_wp2_with (first|(refine yQ rfl _ _ 26 9 rfl 5 Tryz.underlying26 C0 (some ⟨r i,0,none⟩) (aj i) (aj i) s rfl rfl (r i) 0 (own i) (D.out.row i hi) cs HC.out (fun _=>rfl) (by rw[Nat.zero_add,A];exact E) ?_;intro J G hk hs)|go_in)
 refine bodyPost_end (results_none rfl _ _ _) rfl ?_;refine⟨rfl,D.out.wrote hi hk (by rw[tR (by rw[A];exact E)];exact A) ?_,hk,hs⟩;rw[←my];exact G.out
theorem LS (p:Option Addr) (c:Nat) (bs:List UInt8) (w:World) (hn:bs.length=512) (hc:512≤c) (hm:c≤maxLen) (h:cD w p 512 bs):
 Calls Tryz.prog 101 #[.slice p 512 c] w fun e w'=>∃B r,e=.returned (.map (some B))∧aZ w' w.heap.size B r (di bs)∧Kept ag w w':=by
 unfold maxLen at hm;obtain⟨b,o,rfl,j6,_⟩:=h.cell (k:=0) (by omega);have H:=Qh h;have V:=Qh hn;clear h hn
 go_enter Tryz.func101,Tryz.ntmps101
 go_wp2_with fail
 refine(vI w).mono ?_;rintro e w1 ⟨B,r,rfl,A,hk⟩;have y:=Qh A;have u:=Qh hk;clear A hk;obtain⟨R,d⟩:∃R,R=w1.heap.size:=⟨_,rfl⟩
 go_wp2_with (first|(at_range;refine gN rfl _ rfl Tryz.underlying166 B y.out.map (fun _=>true) (fun _ _ _=>rfl) rfl R d ?_;intro w2 HI Y rP)|go_in)
 have xy:=Qh (y.out.cL Y.out);have ie:=Qh (u.out.trans Y.out);have yT:Hid (w.heap.size≤R):=Qh (by rw[d];exact u.out.size);clear Y rP d
 try go_frame
 go_loopw [9] (fun _ wr=>∃todo,Hid (fZ wr B R (iz r) todo)∧Hid (aZ wr w.heap.size B r (jk todo fB (di bs)))∧Hid (Kept ag w wr)) (fun _ wr=>wr.rangeLeft B R)
 case atStart=>exact⟨fun _=>true,HI,by
  have e:jk (fun _=>true) fB (di bs)=fB:=by funext i;exact if_pos rfl
  rw[e];exact xy,ie⟩
 case round=>
  obtain⟨todo,M,A,hK⟩:=hrel
  go_wp2_with (at_next;refine iN rfl _ rfl B R todo (cM r) (wN r) rfl M.out ?_ ?_)
  ·intro hd
   have D:∀i,i<11→todo i=false:=fun i hi=>hd i (cM r i) (by unfold iz;rw[if_pos hi])
   have HD:=Qh (As (todo:=todo) k5 (DK V.out) D);clear hd D;go_wp2;go_ret;refine⟨B,r,rfl,?_,hK.out⟩;rw[←HD.out];exact A.out
  ·intro j w3 v E N6 Eg BD rD uS NQ
   have E:=AF E;have Q5:(Instr.entry (.pointer (some ⟨R,0,none⟩))).run Tryz.prog w3=.ok (.tuple #[.int .i64 (j:Int),.agg #[.int .i64 (fF j),.slice (some ⟨r j,0,none⟩) (aj j) (aj j)]]) w3:=NQ;have hw:=kC E;have jz:=lM E;have G:=Qh E;clear NQ;go_wp2_with fail;obtain⟨w4,O⟩:∃w4,w4=w3.alloc (.cells #[.int .i64 (fF j),.slice (some ⟨r j,0,none⟩) (aj j) (aj j)] 169):=⟨_,rfl⟩
   have g:Kept ag w3 w4:=by rw[O];exact(Kept.refl _ _).alloc _
   have L:w4.heap[wr.heap.size]? =some (.cells #[.int .i64 (fF j),.slice (some ⟨r j,0,none⟩) (aj j) (aj j)] 169 (0,0)):=by rw[O,←uS];exact heap_alloc_new _ _
   rw[←O];have KC:w4.drew.cell? ⟨wr.heap.size,0,none⟩=some (.int .i64 (fF j)):=cn (w:=w4) L 0;have gS:w4.drew.cell? ⟨wr.heap.size,1,none⟩=some (.slice (some ⟨r j,0,none⟩) (aj j) (aj j)):=cn (w:=w4) L 1;have W:Kept (aA R) wr w4.drew:=rD.out.trans (g.drew.dX _);have fD:=jf M.out (A.out.row j E);have I:=A.out.kept W (fun e=>Fa M.out e) (fun i hi e=>(jf M.out (A.out.row i hi)).2 e)
   have X:=hK.out.then W (fun i hi=>Or.inl (by
    have h1:i=R:=hi;rw[h1]
    exact yT.out))
   have T:=Eg.out.kept (g.drew) id id;have U:(aw bs j).length=aj j:=jW V.out E;have cJ:=I.row j E
   have yd:cD w4.drew (some ⟨b,o+fF j,none⟩) (aw bs j).length (aw bs j):=by
    have h1:=(H.out.below (X.below (Qk _) (fun k hk=>hk.elim))).drop (k:=fF j) (c:=c) (by omega) (by omega) V.out;rw[if_neg (by omega)]at h1;have Z:=h1.take (k:=aj j) (by omega);rw[U]
    simpa [WideShapes.add_plain,aw]using Z
   have Px:((jk todo fB (di bs)) j).length=aj j:=I.fit j;have t:=Qh I;have Ei:=Qh X;have q:=Qh T;have N:=Qh fD;have xz:=Qh cJ;have Qo:=Qh yd;have J:=Qh U;have Tm:=Qh Px;have PT:=Qh L;have yW:Hid (w4.drew.rangeLeft B R<wr.rangeLeft B R):=Qh (by rw[T.2];exact BD.out);clear W fD I X T U cJ yd Px L g O Q5
   go_region_held_law (fun w'=>w'.cell? ⟨wr.heap.size,0,none⟩=some (.int .i64 (fF j))∧w'.cell? ⟨wr.heap.size,1,none⟩=some (.slice (some ⟨r j,0,none⟩) (aj j) (aj j))) (first|exact⟨KC,gS⟩|exact QZ)
    (first
     |(refine uk rfl _ _ 26 26 rfl 5 Tryz.underlying26 C0 (some ⟨r j,0,none⟩) (some ⟨b,o+fF j,none⟩) (aj j) (aj j) (512 - fF j) (c - fF j) rfl rfl (r j) 0 (jk todo fB (di bs) j) xz.out (aw bs j)
        (by rw[J.out];exact(Nat.min_eq_right (by omega)).symm) (fun _=>rfl) Qo.out (by rw[J.out,Tm.out];omega) ?_
       intro m KV f qG;have KM:=Qh f
       have QZ:m.cell? ⟨wr.heap.size,0,none⟩=some (.int .i64 (fF j))∧m.cell? ⟨wr.heap.size,1,none⟩=some (.slice (some ⟨r j,0,none⟩) (aj j) (aj j)):=by
        have h5:m.heap[wr.heap.size]? =_:=f.some_ (show w4.drew.heap[wr.heap.size]? =_ from PT.out) (fun e=>by
         have h1:wr.heap.size=r j:=e;have Z:=(A.out.row j G.out).lt
         omega)
        exact⟨cn h5 0,cn h5 1⟩
       clear f))
   simp only[List.getElem_toArray,List.getElem_cons_succ,List.getElem_cons_zero]
   go_frame
   go_wp2;go_roundw
   case rel=>
    have hk:=KM.out;have NW:=t.out.lo.2 j G.out
    refine⟨fun z=>todo z&&z != j,Qh (q.out.1.kept hk (fun e=>N.out.1 (Eq.symm e)) (fun e=>N.out.2 (Eq.symm e))).1,Qh ?_,Qh (Ei.out.then hk (fun i hi=>Or.inl (by
     have h1:i=r j:=hi;rw[h1]
     exact NW)))⟩
    have hw:=t.out.wrote G.out hk (l:=aw bs j) J.out (by
     have h1:=KV.out
     rwa [my,jN (by rw[J.out,Tm.out])]at h1)
    have e:=tD (todo:=todo) (a:=fB) (b:=di bs) j;rw[show di bs j=aw bs j by unfold di;rw[if_pos G.out]]at e;rw[e]at hw;exact hw
   case measure=>
    have hk:=KM.out;have h1:=(q.out.1.kept hk (fun e=>N.out.1 (Eq.symm e)) (fun e=>N.out.2 (Eq.symm e))).2;have Z:=yW.out;omega
theorem vJ (lo B:Nat) (r:Nat→Nat) (own:Nat→List UInt8) (w:World) (MI:aZ w lo B r own):
 Calls Tryz.prog 161 #[.map (some B)] w fun e w'=>∃g,e=.returned (.slice (some ⟨g,0,none⟩) 512 512)∧eC w' g (cu own)∧w.heap.size≤g∧Kept ag w w':=by
 obtain⟨i0,y,fV,fb,fg⟩:=info_parts lU;have iu:=Qh y;have lu:=Qh fV;have j5:=Qh fb;have lx:=Qh fg;have JC:=Qh MI;have t:Hid (B<w.heap.size∧∀i,i<11→r i<w.heap.size):=Qh ⟨MI.map.lt,fun i hi=>(MI.row i hi).lt⟩;clear y fV fb fg MI
 go_enter Tryz.func161,Tryz.ntmps161
 go_wp2_with (at_make;refine wpList_make_full _ rfl _ _ 26 rfl w.heap.size 5 i0 (.int .u8 0) 1 Tryz.underlying26 iu.out lu.out j5.out .i64 .i64 _ _ 512 rfl rfl rfl rfl (by rw[lx.out];omega) (by decide) (Qk _) ?_)
 intro w1 bt bw;have G:=L1 bt;rw[←zr]at G;have Y:Kept ag w w1:=(Kept.refl ag w).grown bw (fun k hk=>by cases hk);obtain⟨g,hg⟩:∃g,g=w.heap.size:=⟨_,rfl⟩
 rw[←hg]at G⊢;have o:=Qh (JC.out.cL Y);have Tn:=Qh G;have fE:=Qh Y;have L:Hid (w.heap.size≤g):=Qh (by omega);clear bt bw G Y;obtain⟨R,c⟩:∃R,R=w1.heap.size:=⟨_,rfl⟩
 go_wp2_with (first|(at_range;refine gN rfl _ rfl Tryz.underlying166 B o.out.map (fun _=>true) (fun _ _ _=>rfl) rfl R c ?_;intro w2 HI M rP)|go_in)
 have ie:=Qh (fE.out.trans M.out);have xy:=Qh (o.out.cL M.out);have Tp:=Qh (Tn.out.kept M.out id);have yT:Hid (w.heap.size≤R):=Qh (by rw[c];exact fE.out.size);clear M rP c hg
 try go_frame
 go_loopw [9] (fun _ wr=>∃todo,Hid (fZ wr B R (iz r) todo)∧Hid (aZ wr lo B r own)∧Hid (eC wr g (cu (jk todo fB own)))∧Hid (Kept ag w wr)) (fun _ wr=>wr.rangeLeft B R)
 case atStart=>exact⟨fun _=>true,HI,xy,by
  have e:jk (fun _=>true) fB own=fB:=by funext i;exact if_pos rfl
  rw[e];exact Tp,ie⟩
 case round=>
  obtain⟨todo,O,E,N,hK⟩:=hrel
  go_wp2_with (at_next;refine iN rfl _ rfl B R todo (cM r) (wN r) rfl O.out ?_ ?_)
  ·intro hd
   have A:∀i,i<11→todo i=false:=fun i hi=>hd i (cM r i) (by unfold iz;rw[if_pos hi])
   have HD:=Qh (As (todo:=todo) k5 E.out.fit A);clear hd A;go_wp2;go_ret;refine⟨g,rfl,?_,L.out,hK.out⟩;rw[←HD.out];exact N.out
  ·intro j w3 v D N6 Eg BD rD uS u
   have D:=AF D;have Q5:(Instr.entry (.pointer (some ⟨R,0,none⟩))).run Tryz.prog w3=.ok (.tuple #[.int .i64 (j:Int),.agg #[.int .i64 (fF j),.slice (some ⟨r j,0,none⟩) (aj j) (aj j)]]) w3:=u;have hw:=kC D;have jz:=lM D;have HJ:=Qh D;clear u;go_wp2_with fail;obtain⟨w4,U⟩:∃w4,w4=w3.alloc (.cells #[.int .i64 (fF j),.slice (some ⟨r j,0,none⟩) (aj j) (aj j)] 169):=⟨_,rfl⟩
   have f:Kept ag w3 w4:=by rw[U];exact(Kept.refl _ _).alloc _
   have I:w4.heap[wr.heap.size]? =some (.cells #[.int .i64 (fF j),.slice (some ⟨r j,0,none⟩) (aj j) (aj j)] 169 (0,0)):=by rw[U,←uS];exact heap_alloc_new _ _
   rw[←U];have KC:w4.drew.cell? ⟨wr.heap.size,0,none⟩=some (.int .i64 (fF j)):=cn (w:=w4) I 0;have gS:w4.drew.cell? ⟨wr.heap.size,1,none⟩=some (.slice (some ⟨r j,0,none⟩) (aj j) (aj j)):=cn (w:=w4) I 1;have J:Kept (aA R) wr w4.drew:=rD.out.trans (f.drew.dX _);have Z:=jf O.out N.out;have X:=E.out.kept J (fun e=>Fa O.out e) (fun i hi e=>(jf O.out (E.out.row i hi)).2 e)
   have Sr:=hK.out.then J (fun i hi=>Or.inl (by
    have h1:i=R:=hi;rw[h1]
    exact yT.out))
   have V:=Eg.out.kept (f.drew) id id;have W:(own j).length=aj j:=E.out.fit j;have cJ:eC w4.drew g (cu (jk todo fB own)):=N.out.kept J (fun e=>Z.2 e)
   have yd:cD w4.drew (some ⟨r j,0,none⟩) (own j).length (own j):=by
    rw[W];exact X.ib D
   have Ek:=Qh X;have Ei:=Qh Sr;have m:=Qh V;have T:=Qh Z;have xz:=Qh cJ;have Qo:=Qh yd;have H:=Qh W;have PT:=Qh I;have p:Hid (Fits (jk todo fB own)):=Qh (Au k5 E.out.fit);have yW:Hid (w4.drew.rangeLeft B R<wr.rangeLeft B R):=Qh (by rw[V.2];exact BD.out);clear J Z X Sr V W cJ yd I f U Q5
   go_region_held_law (fun w'=>w'.cell? ⟨wr.heap.size,0,none⟩=some (.int .i64 (fF j))∧w'.cell? ⟨wr.heap.size,1,none⟩=some (.slice (some ⟨r j,0,none⟩) (aj j) (aj j))) (first|exact⟨KC,gS⟩|exact QZ)
    (first
     |(refine uk rfl _ _ 26 26 rfl 5 Tryz.underlying26 C0 (some ⟨g,fF j,none⟩) (some ⟨r j,0,none⟩) (512 - fF j) (512 - fF j) (aj j) (aj j) rfl rfl g (fF j) (cu (jk todo fB own)) xz.out (own j)
        (by rw[H.out];exact(Nat.min_eq_left (by omega)).symm) (fun _=>rfl) Qo.out (by rw[H.out,bV];omega) ?_
       intro l KV d qG;have q:=Qh d
       have QZ:l.cell? ⟨wr.heap.size,0,none⟩=some (.int .i64 (fF j))∧l.cell? ⟨wr.heap.size,1,none⟩=some (.slice (some ⟨r j,0,none⟩) (aj j) (aj j)):=by
        have h5:l.heap[wr.heap.size]? =_:=d.some_ (show w4.drew.heap[wr.heap.size]? =_ from PT.out) (fun e=>by
         have h1:wr.heap.size=g:=e;have b:=N.out.lt
         omega)
        exact⟨cn h5 0,cn h5 1⟩
       clear d))
   simp only[List.getElem_toArray,List.getElem_cons_succ,List.getElem_cons_zero]
   go_frame
   go_wp2;go_roundw
   case rel=>
    have hk:=q.out
    refine⟨fun z=>todo z&&z != j,Qh (m.out.1.kept hk (fun e=>T.out.1 (Eq.symm e)) (fun e=>T.out.2 (Eq.symm e))).1,Qh (Ek.out.kept hk (fun e=>?_) (fun i hi e=>?_)),Qh ?_,Qh (Ei.out.then hk (fun i hi=>Or.inl (by
     have h1:i=g:=hi;rw[h1]
     exact L.out)))⟩
    ·have h1:B=g:=e
     have b:=t.out.1;have h3:=L.out;omega
    ·have h1:r i=g:=e
     have b:=t.out.2 i hi;have h3:=L.out;omega
    ·have h1:=KV.out
     rw[vk p.out HJ.out (by rw[H.out];exact Qk _),jN (by rw[H.out,p.out j]),tD]at h1;exact h1
   case measure=>
    have hk:=q.out;have h1:=(m.out.1.kept hk (fun e=>T.out.1 (Eq.symm e)) (fun e=>T.out.2 (Eq.symm e))).2;have b:=yW.out;omega
end Head
namespace Head
open Hp Go.Proofs.YtdhibldkldlfpaaGreatDoor.Mp Fp Go.Proofs.YtdhibldkldlfpaaGreatDoor.Field
variable {own:Nat→List UInt8}
def kT (mE:Nat→Int):Nat→Option Value:=fun i=>if 1≤i∧i≤5 then some (.int .i64 (mE i))else none
theorem Az (mE:Nat→Int):∀j v,kT mE j=some v→v=.int .i64 (mE j):=fun j v h=>by
 unfold kT at h;split at h
 ·exact(Option.some.inj h).symm
 ·cases h
theorem Fk {mE:Nat→Int} (h:kT mE j=some v):1≤j∧j≤5:=by
 unfold kT at h;split at h
 ·assumption
 ·cases h
theorem oZ (mE:Nat→Int) (h1:1≤j) (h2:j≤5):kT mE j=some (.int .i64 (mE j)):=by
 unfold kT;rw[if_pos ⟨h1,h2⟩]
theorem nr (n l:ByteArray) (k m u g t z:Int) (fp:Bool) (mE:Nat→Int) (h1:mE 1=m) (h2:mE 2=u) (h3:mE 3=g) (h4:mE 4=z) (h5:mE 5=t) (w:World):
 Calls Tryz.prog 138 #[.agg #[.string n,.string l,.int .u8 k,.int .i64 m,.int .i64 u,.int .i64 g,.int .i64 t,.int .i64 z,.bool fp]] w fun e w'=>∃N,e=.returned (.map (some N))∧jw w' N (kT mE)∧w.heap.size≤N∧Kept ag w w':=by
 obtain⟨O,hO⟩:∃O,O=Obj.cells #[.string n,.string l,.int .u8 k,.int .i64 m,.int .i64 u,.int .i64 g,.int .i64 t,.int .i64 z,.bool fp] 66:=⟨_,rfl⟩
 have L:=pX (w.alloc O);rw[World.size_alloc,hO]at L;have b:=Qh L;have D:((w.alloc O).alloc (.map #[] 0)).heap[w.heap.size]? =some O:=((Kept.refl ag (w.alloc O)).alloc (.map #[] 0)).some_ (heap_alloc_new w O) id;have I:Kept ag w ((w.alloc O).alloc (.map #[] 0)):=((Kept.refl ag w).alloc O).alloc _;rw[hO]at D I;have o:=Qh D;have p:=Qh I;clear L D I hO
 have off:¬aA (w.heap.size+1) w.heap.size:=fun e=>by
  have:w.heap.size=w.heap.size+1:=e;omega
 have B:=Qh off
 have lo:∀i,aA (w.heap.size+1) i→w.heap.size≤i∨ag i:=fun i hi=>Or.inl (by
  have:i=w.heap.size+1:=hi
  omega)
 have A:=Qh lo;clear off lo;have mm:=@run_makeMap Tryz.prog
 go_enter Tryz.func138,Tryz.ntmps138
 go_wp2_with (refine dN rfl _ _ _ (Or.inr rfl) Tryz.underlying171 Tryz.underlying170 (w.heap.size+1) b.out rfl 1 rfl rfl (.int .i64 m) rfl ?_)
 intro w1 q E ng;have M:=Qh (E.out.some_ o.out B.out);have Z:=Qh (p.out.then E.out A.out);have c4:=cn M.out 4;clear E ng
 go_wp2_with (refine dN rfl _ _ _ (Or.inr rfl) Tryz.underlying171 Tryz.underlying170 (w.heap.size+1) q.out rfl 2 rfl rfl (.int .i64 u) rfl ?_)
 intro w2 Y G rP;have R:=Qh (G.out.some_ M.out B.out);have f:=Qh (Z.out.then G.out A.out);have c5:=cn R.out 5;clear G rP c4
 go_wp2_with (refine dN rfl _ _ _ (Or.inr rfl) Tryz.underlying171 Tryz.underlying170 (w.heap.size+1) Y.out rfl 3 rfl rfl (.int .i64 g) rfl ?_)
 intro w3 d H uS;have T:=Qh (H.out.some_ R.out B.out);have rD:=Qh (f.out.then H.out A.out);have c6:=cn T.out 6;clear H uS c5
 go_wp2_with (refine dN rfl _ _ _ (Or.inr rfl) Tryz.underlying171 Tryz.underlying170 (w.heap.size+1) d.out rfl 5 rfl rfl (.int .i64 t) rfl ?_)
 intro w4 r J X;have nz:=Qh (J.out.some_ T.out B.out);have V:=Qh (rD.out.then J.out A.out);have c7:=cn nz.out 7;clear J X c6
 go_wp2_with (refine dN rfl _ _ _ (Or.inr rfl) Tryz.underlying171 Tryz.underlying170 (w.heap.size+1) r.out rfl 4 rfl rfl (.int .i64 z) rfl ?_)
 intro w5 c U qG;have W:=Qh (V.out.then U.out A.out);clear U qG c7;go_wp2;go_ret;refine⟨_,rfl,?_,by omega,W.out⟩
 have e:(kT mE)=fun y=>if y=4 then some (Value.int .i64 z)else if y=5 then some (Value.int .i64 t)else if y=3 then some (Value.int .i64 g)else if y=2 then some (Value.int .i64 u)else if y=1 then some (Value.int .i64 m)else none:=by
  funext y
  unfold kT
  match y with
  |0=>rfl
  |1=>rw[h1];rfl
  |2=>rw[h2];rfl
  |3=>rw[h3];rfl
  |4=>rw[h4];rfl
  |5=>rw[h5];rfl
  |y+6=>rw[if_neg (by omega),if_neg (by omega),if_neg (by omega),if_neg (by omega),if_neg (by omega),if_neg (by omega)]
 rw[e];exact c.out
def o5 (own:Nat→List UInt8):Bool:=(List.range 5).all fun i=>LC (bk (own (i+1)))
theorem mR:o5 own=true↔∀i,1≤i→i≤5→LC (bk (own i))=true:=by
 unfold o5;rw[List.all_eq_true];constructor
 ·intro h i h1 A
  have:=h (i - 1) (List.mem_range.2 (by omega))
  rwa [show i - 1+1=i by omega]at this
 ·intro h i hi
  have:=List.mem_range.1 hi;exact h (i+1) (by omega) (by omega)
def JJ (w:World) (own:Nat→List UInt8) (e:Ending) (w':World):Prop:=
 Kept ag w w'∧((o5 own=true∧∃Q,e=.returned (.tuple #[.map (some Q),.bool true])∧jw w' Q (kT fun i=>po (bk (own i))))∨(o5 own=false∧e=.returned (.tuple #[.map none,.bool false])))
theorem qO (lo B:Nat) (r:Nat→Nat) (own:Nat→List UInt8) (w:World) (MI:aZ w lo B r own):
 Calls Tryz.prog 104 #[.map (some B)] w (JJ w own):=by
 have fl:=gv;have X:=Qh MI;have sU:=pX w;have iA:=Qh sU;have j7:=Qh ((Kept.refl ag w).alloc (.map #[] 0));clear MI sU;have mm:=@run_makeMap Tryz.prog
 go_enter Tryz.func104,Tryz.ntmps104
 go_wp2_with fail
 refine(nr ⟨#[]⟩ ⟨#[]⟩ 0 0 0 0 0 0 false (fun _=>0) rfl rfl rfl rfl rfl _).mono ?_;rintro e w1 ⟨N,rfl,hN,VL,L⟩;have HN:=Qh hN;have t:Hid (N≠w.heap.size):=Qh (by rw[World.size_alloc]at VL;omega);have ZB:=Qh (iA.out.kept L id);have FK:=Qh ((X.out.cL j7.out).cL L);have fE:=Qh (j7.out.trans L);clear hN VL L;obtain⟨R,hR⟩:∃R,R=w1.heap.size:=⟨_,rfl⟩
 go_wp2_with (first|(at_range;refine gN rfl _ rfl Tryz.underlying171 N HN.out (fun _=>true) (fun _ _ _=>rfl) rfl R hR ?_;intro w2 HI M rP)|go_in)
 have ie:=Qh (fE.out.trans M.out);have xy:=Qh (FK.out.cL M.out);have El:=Qh (ZB.out.kept M.out id)
 have T:Hid (w.heap.size<R):=Qh (by
  have:=ZB.out.lt
  omega)
 clear M rP hR
 try go_frame
 go_loopw [12] (fun _ wr=>∃todo,Hid (fZ wr N R (kT fun _=>0) todo)∧Hid (aZ wr lo B r own)∧Hid (jw wr w.heap.size (fun i=>if todo i=true then none else kT (fun i=>po (bk (own i))) i))∧Hid (Kept ag w wr)∧Hid (∀i,1≤i→i≤5→todo i=false→LC (bk (own i))=true)) (fun _ wr=>wr.rangeLeft N R)
 case atStart=>exact⟨fun _=>true,HI,xy,by
  have e:(fun i=>if true=true then none else kT (fun i=>po (bk (own i))) i)=fun _=>(none:Option Value):=by funext i;rfl
  rw[e];exact El,ie,Qh (fun i _ _ h=>by cases h)⟩
 case round=>
  obtain⟨todo,b,c,hQ,hK,hD⟩:=hrel
  go_wp2_with (at_next;refine iN rfl _ rfl N R todo (fun _=>.int .i64 0) (Az _) rfl b.out ?_ ?_)
  ·intro hd
   have D:∀i,1≤i→i≤5→todo i=false:=fun i h1 A=>hd i (.int .i64 0) (oZ _ h1 A)
   have I:Hid (o5 own=true∧(fun i=>if todo i=true then none else kT (fun i=>po (bk (own i))) i)=kT fun i=>po (bk (own i))):=Qh ⟨mR.2 fun i h1 A=>hD.out i h1 A (D i h1 A),by
    funext i
    split
    ·rename_i E
     unfold kT;rw[if_neg];rintro⟨h1,A⟩;rw[D i h1 A]at E
     cases E
    ·rfl⟩
   clear hd D;go_wp2;go_ret2;refine⟨hK.out,Or.inl ⟨I.out.1,_,rfl,?_⟩⟩;have h1:=hQ.out;rw[I.out.2]at h1;exact h1
  ·intro j w3 v d p Eg BD f uS NQ
   have d:=Fk d;obtain⟨CO,Yg⟩:=d;have l:j<11:=by omega
   have Y:=c.out.kept f.out (fun e=>by
    have h1:=c.out.map;have A:=b.out;obtain⟨es,clock,hb,_⟩:=h1;obtain⟨_,_,_,_,_,_,_,_,_,hr,_⟩:=A;have e:B=R:=e;rw[←e,hb]at hr
    cases hr) (fun i hi e=>(jf b.out (c.out.row i hi)).2 e)
   have Z8:=hQ.out.kept f.out (fun e=>by
    have e:w.heap.size=R:=e;have:=T.out
    omega)
   have q:=hK.out.then f.out (fun i hi=>Or.inl (by
    have h1:i=R:=hi;have:=T.out
    omega))
   have lk:(Instr.lookup 166 (.map (some B)) (.int .i64 (j:Int)) false).run Tryz.prog w3=.ok (.agg #[.int .i64 (fF j),.slice (some ⟨r j,0,none⟩) (aj j) (aj j)]) w3:=
    Y.map.look (P:=Tryz.prog) Tryz.underlying166 Tryz.underlying170 (x:=j) (v:=cM r j) (by unfold iz;rw[if_pos l])
   have hw:=kC l;have HJ:=Qh l;have g:=Qh Y;have Th:=Qh Z8;have BC:=Qh q;have HW:=Qh hw;have ZI:=Qh p;have J:Hid (1≤j∧j≤5):=Qh ⟨CO,Yg⟩;clear Y Z8 q hw p;go_wp2_with fail;refine(wM _ (aj j) (aj j) (own j) w3 (g.out.fit j) (Qk _) (by have:=HW.out;unfold maxLen;omega) (g.out.ib HJ.out)).mono ?_;rintro e w4 ⟨rfl,fw⟩;have H:Kept ag w3 w4:=Kept.aR fw _;have Ek:=Qh (g.out.cL H);have V:=Qh (Th.out.kept H id);have o:=Qh (BC.out.trans H);have U:=Eg.out.kept H id id;have m:=Qh U.1;have Ww:Hid (w4.rangeLeft N R<wr.rangeLeft N R):=Qh (by rw[U.2];exact BD.out);clear fw H U lk
   by_cases G:LC (bk (own j))=true
   ·have vz:=Qh G
    rw[G];clear G
    go_wp2_with (first|(at_mapUpdate;refine dN rfl _ _ _ (Or.inl rfl) Tryz.underlying171 Tryz.underlying170 w.heap.size V.out rfl j rfl (by rw[ZI.out];rfl) (.int .i64 (po (bk (own j)))) rfl ?_;intro w5 W O qG)|go_in)
    try go_frame
    try go_wp2
    go_roundw
    case rel=>
     have Z:=m.out.kept O.out t.out (fun e=>by
      have e:R=w.heap.size:=e;have:=T.out
      omega)
     refine⟨fun z=>todo z&&z != j,Qh Z.1,Qh (Ek.out.kept O.out (fun e=>?_) (fun i hi e=>?_)),Qh ?_,Qh (o.out.then O.out (fun i hi=>Or.inl (by
      have h1:i=w.heap.size:=hi
      omega))),Qh (fun i h1 A E=>?_)⟩
     ·have e:B=w.heap.size:=e
      have:=X.out.map.lt;omega
     ·have e:r i=w.heap.size:=e
      have:=(X.out.row i hi).lt;omega
     ·have h1:=W.out
      have e:(fun y=>if y=j then some (Value.int .i64 (po (bk (own j))))else if todo y=true then none else kT (fun i=>po (bk (own i))) y)=fun i=>if(todo i&&i != j)=true then none else kT (fun i=>po (bk (own i))) i:=by
       funext y
       by_cases hy:y=j
       ·subst hy
        rw[if_pos rfl,if_neg (by simp),oZ _ J.out.1 J.out.2]
       ·have A:(y != j)=true:=by simpa using hy
        rw[if_neg hy,A,Bool.and_true]
      rw[e]at h1;exact h1
     ·by_cases qD:i=j
      ·rw[qD];exact vz.out
      ·have h3:(i != j)=true:=by simpa using qD
       have E:(todo i&&i != j)=false:=E;rw[h3,Bool.and_true]at E;exact hD.out i h1 A E
    case measure=>
     have Z:=m.out.kept O.out t.out (fun e=>by
      have e:R=w.heap.size:=e;have:=T.out
      omega)
     have h1:=Ww.out;have A:=Z.2;omega
   ·have u:LC (bk (own j))=false:=by simpa using G
    have I:Hid (o5 own=false):=Qh (by
     cases hc:o5 own with
     |false=>rfl
     |true=>exact absurd (mR.1 hc j J.out.1 J.out.2) G)
    rw[u];clear G u;go_wp2;go_ret2;exact⟨o.out,Or.inr ⟨I.out,rfl⟩⟩
def L2 (r:Nat→Nat):Nat→Prop:=fun k=>∃i,i<11∧k=r i
def tH (h:ak) (own:Nat→List UInt8):Nat→List UInt8:=fun i=>if 1≤i∧i≤5 then Dw h i else own i
def qm (w:World) (lo B:Nat) (r:Nat→Nat) (h:ak) (own:Nat→List UInt8) (e:Ending) (w':World):Prop:=
 Kept (L2 r) w w'∧((fc h=true∧e=.returned (.bool true)∧aZ w' lo B r (tH h own))∨(fc h=false∧e=.returned (.bool false)))
theorem tS (h:ak) (Rv:∀i,(Lit.int .i64 (j0 h i)).wf=true) (lo B:Nat) (r:Nat→Nat) (own:Nat→List UInt8) (w:World) (MI:aZ w lo B r own) (hz:∀i,1≤i→i≤5→own i=List.replicate (aj i) 0):
 Calls Tryz.prog 158 #[.map (some B),.agg #[.string (str h.name),.string (str h.link),.int .u8 (h.kind.toNat:Int),.int .i64 h.mode,.int .i64 h.uid,.int .i64 h.gid,.int .i64 h.time,.int .i64 h.size,.bool h.fp]] w (qm w lo B r h own):=by
 have fl:=gv;have JC:=Qh MI;have HZ:=Qh hz;have WV:=Qh Rv;have j7:=Qh ((Kept.refl ag w).alloc (.cells #[.string (str h.name),.string (str h.link),.int .u8 (h.kind.toNat:Int),.int .i64 h.mode,.int .i64 h.uid,.int .i64 h.gid,.int .i64 h.time,.int .i64 h.size,.bool h.fp] 66));clear MI hz Rv
 go_enter Tryz.func158,Tryz.ntmps158
 go_wp2_with fail
 refine(nr _ _ _ _ _ _ _ _ _ (j0 h) rfl rfl rfl rfl rfl _).mono ?_;rintro e w1 ⟨N,rfl,hN,VL,Z⟩;have HN:=Qh hN;have FK:=Qh ((JC.out.cL j7.out).cL Z);have fE:=Qh (j7.out.trans Z);clear hN VL Z;obtain⟨R,g⟩:∃R,R=w1.heap.size:=⟨_,rfl⟩
 go_wp2_with (first|(at_range;refine gN rfl _ rfl Tryz.underlying171 N HN.out (fun _=>true) (fun _ _ _=>rfl) rfl R g ?_;intro w2 HI c rP)|go_in)
 have ie:=Qh ((fE.out.trans c.out).dX (L2 r));have xy:=Qh (FK.out.cL c.out);have yT:Hid (w.heap.size≤R):=Qh (by rw[g];exact fE.out.size);clear c rP g
 try go_frame
 go_loopw [12] (fun _ wr=>∃todo,Hid (fZ wr N R (kT (j0 h)) todo)∧Hid (aZ wr lo B r (jk todo own (tH h own)))∧Hid (Kept (L2 r) w wr)∧Hid (∀i,1≤i→i≤5→todo i=false→(fh (j0 h i) (aj i)).isSome=true)) (fun _ wr=>wr.rangeLeft N R)
 case atStart=>exact⟨fun _=>true,HI,by
  have e:jk (fun _=>true) own (tH h own)=own:=by funext i;exact if_pos rfl
  rw[e];exact xy,ie,Qh (fun i _ _ h=>by cases h)⟩
 case round=>
  obtain⟨todo,f,L,hK,hD⟩:=hrel
  go_wp2_with (at_next;refine iN rfl _ rfl N R todo (fun j=>.int .i64 (j0 h j)) (Az _) rfl f.out ?_ ?_)
  ·intro hd
   have D:∀i,1≤i→i≤5→todo i=false:=fun i h1 A=>hd i _ (oZ _ h1 A)
   have H:Hid (fc h=true∧jk todo own (tH h own)=tH h own):=Qh ⟨du.2 fun i h1 A=>hD.out i h1 A (D i h1 A),by
    funext i
    unfold jk;split
    ·rename_i E
     unfold tH;rw[if_neg];rintro⟨h1,A⟩;rw[D i h1 A]at E
     cases E
    ·rfl⟩
   clear hd D;go_wp2;go_ret;refine⟨hK.out,Or.inl ⟨H.out.1,rfl,?_⟩⟩;have h1:=L.out;rw[H.out.2]at h1;exact h1
  ·intro j w3 v m N6 q BD rD uS NQ
   have m:=Fk m;obtain⟨CO,Yg⟩:=m;have O:j<11:=by omega
   have V:=L.out.kept rD.out (fun e=>by
    have h1:=L.out.map;have A:=f.out;obtain⟨es,clock,hb,_⟩:=h1;obtain⟨_,_,_,_,_,_,_,_,_,hr,_⟩:=A;have e:B=R:=e;rw[←e,hb]at hr
    cases hr) (fun i hi e=>(jf f.out (L.out.row i hi)).2 e)
   have TJ:=hK.out.then rD.out (fun i hi=>Or.inl (by
    have h1:i=R:=hi;have:=yT.out
    omega))
   have lk:(Instr.lookup 166 (.map (some B)) (.int .i64 (j:Int)) false).run Tryz.prog w3=.ok (.agg #[.int .i64 (fF j),.slice (some ⟨r j,0,none⟩) (aj j) (aj j)]) w3:=
    V.map.look (P:=Tryz.prog) Tryz.underlying166 Tryz.underlying170 (x:=j) (v:=cM r j) (by unfold iz;rw[if_pos O])
   have hw:=kC O;have y:=Qh O;have rE:=Qh V;have p:=Qh TJ;have HW:=Qh hw;have ZI:=Qh N6;have W:Hid (1≤j∧j≤5):=Qh ⟨CO,Yg⟩;have G:=Qh (jf (q.out) (rE.out.row j O));clear V TJ hw N6;go_wp2_with fail
   refine(Ft (j0 h j) (aj j) w3 (WV.out j) (by
    have:=HW.out
    exact WalkArith.wf_i64 (by omega))).mono ?_
   rintro e w4 ⟨J,(⟨l,v4,hl,rfl,bt⟩|⟨hl,rfl⟩)⟩
   ·have hlen:=qT hl
    obtain⟨p4,c4,rfl,Pe,o,rj,_⟩:=Fu rfl hl bt;have M:Kept ag w3 w4:=Kept.aR J _;have u:=Qh (rE.out.cL M);have U:=Qh (p.out.trans (M.dX _));have T:=q.out.kept M id id;have t:=Qh T.1;have Ww:Hid (w4.rangeLeft N R<wr.rangeLeft N R):=Qh (by rw[T.2];exact BD.out);have jy:(bytesOf l).length=aj j:=by rw[bytesOf_length];omega
    have cs:(convert 26 9 (.slice p4 l.length c4)).run Tryz.prog w4=.ok (.string (str (bytesOf l))) w4:=cF rj (by rw[bytesOf_length]) _ _ _ Tryz.underlying26 Tryz.underlying5 Tryz.underlying9 c4;have HB:Hid (Dw h j=bytesOf l):=Qh (pZ hl);have Jt:=Qh jy;have Vz:Hid ((fh (j0 h j) (aj j)).isSome=true):=Qh (by rw[hl];rfl);clear hl bt hlen Pe o rj J M T lk jy;go_wp2_with fail;refine(gD lo B r _ j (str (bytesOf l)) w4 y.out u.out).mono ?_;rintro e w5 ⟨rfl,I,ik,qG⟩;have hold:(jk todo own (tH h own) j).length=aj j:=u.out.fit j;rw[bg,List.take_of_length_le (by rw[Jt.out];exact Qk _),jN (by rw[Jt.out,hold])]at I;have d:=tD (todo:=todo) (a:=own) (b:=tH h own) j;rw[show tH h own j=bytesOf l by unfold tH;rw[if_pos W.out,HB.out]]at d;rw[d]at I;have WD:=Qh I;have X:=Qh ik;clear I ik qG hold d cs;go_wp2;go_roundw
    case rel=>
     have Y:=t.out.kept X.out (fun e=>G.out.1 (Eq.symm e)) (fun e=>G.out.2 (Eq.symm e));refine⟨fun z=>todo z&&z != j,Qh Y.1,WD,Qh (U.out.trans (X.out.mono (fun k hk=>⟨j,y.out,hk⟩))),Qh (fun i h1 A E=>?_)⟩
     by_cases qD:i=j
     ·rw[qD];exact Vz.out
     ·have h3:(i != j)=true:=by simpa using qD
      have E:(todo i&&i != j)=false:=E;rw[h3,Bool.and_true]at E;exact hD.out i h1 A E
    case measure=>
     have Y:=t.out.kept X.out (fun e=>G.out.1 (Eq.symm e)) (fun e=>G.out.2 (Eq.symm e));have h1:=Ww.out;have A:=Y.2;omega
   ·have H:Hid (fc h=false):=Qh (by
     cases hc:fc h with
     |false=>rfl
     |true=>
      have:=du.1 hc j W.out.1 W.out.2;rw[hl]at this
      cases this)
    have U:=Qh (p.out.trans (Kept.aR J _));clear hl J lk;go_wp2;go_ret;exact⟨U.out,Or.inr ⟨H.out,rfl⟩⟩
theorem gZ {fn:Func} (hf:fn.results=#[.cell 2 66,.tmp 3]) (tmps:Array Value) (w:World) (g:Nat) (v:Value) (ht:tmps.getD 2 undef=.pointer (some ⟨g,0,none⟩)) (hv:tmps.getD 3 undef=v)
 (a b:ByteArray) (k m u i t z:Int) (n:Bool) (h:w.heap[g]? =some (.cells #[.string a,.string b,.int .u8 k,.int .i64 m,.int .i64 u,.int .i64 i,.int .i64 t,.int .i64 z,.bool n] 66 (0,0))):
 (results fn tmps).run Tryz.prog w=.ok (.tuple #[.agg #[.string a,.string b,.int .u8 k,.int .i64 m,.int .i64 u,.int .i64 i,.int .i64 t,.int .i64 z,.bool n],v]) w:=by
 rw[results_cell_tmp hf,ht,hv];have hl:=mQ w g a b k m u i t z n h;simp[asAddr,hl,Result.andThen]
theorem PG {lo:Nat} {r:Nat→Nat} (h:aZ w lo B r own) (i:Nat) (hi:i<11):
 (Instr.lookup 166 (.map (some B)) (.int .i64 (i:Int)) false).run Tryz.prog w=.ok (.agg #[.int .i64 (fF i),.slice (some ⟨r i,0,none⟩) (aj i) (aj i)]) w:=
 h.map.look (P:=Tryz.prog) Tryz.underlying166 Tryz.underlying170 (x:=i) (v:=cM r i) (by unfold iz;rw[if_pos hi])
theorem kU (bs:List UInt8):o5 (di bs)=jI bs:=by
 have e:∀i,1≤i→i≤5→di bs i=aw bs i:=fun i h1 A=>if_pos (by omega)
 cases h:jI bs with
 |true=>
  refine mR.2 fun i h1 A=>?_
  rw[e i h1 A];exact ma.1 h i h1 A
 |false=>
  cases A:o5 (di bs)with
  |false=>rfl
  |true=>
   have E:jI bs=true:=ma.2 fun i B D=>by
    rw[←e i B D];exact mR.1 A i B D
   rw[h]at E
   cases E
theorem mi (bs:List UInt8) (i:Nat) (hi:i<11):di bs i=aw bs i:=if_pos hi
def gK:Array Value:=#[.string ⟨#[]⟩,.string ⟨#[]⟩,.int .u8 0,.int .i64 0,.int .i64 0,.int .i64 0,.int .i64 0,.int .i64 0,.bool false]
theorem mV {e:TypeId} (h:w.heap[g]? =some (.cells gK e (0,0))) (v0 v1 v2 v3 v4 v5 v6 v7 v8:Value):
 (((((((((w.setCell ⟨g,0,none⟩ v0).setCell ⟨g,1,none⟩ v1).setCell ⟨g,2,none⟩ v2).setCell ⟨g,3,none⟩ v3).setCell ⟨g,4,none⟩ v4).setCell ⟨g,5,none⟩ v5).setCell ⟨g,6,none⟩ v6).setCell ⟨g,7,none⟩ v7).setCell ⟨g,8,none⟩ v8).heap[g]? =
   some (.cells #[v0,v1,v2,v3,v4,v5,v6,v7,v8] e (0,0)):=by
 have st:∀{w:World} {cs:Array Value} (i:Nat) (v:Value),w.heap[g]? =some (.cells cs e (0,0))→(w.setCell ⟨g,i,none⟩ v).heap[g]? =some (.cells (cs.setIfInBounds i v) e (0,0)):=by
  intro w cs i v h;rw[setCell_eq_setRow w g i _ _ _ _ h];exact setRow_heap w g _ _ _ _ h
 have A:(w.setCell ⟨g,0,none⟩ v0).heap[g]? =some (.cells #[v0,.string ⟨#[]⟩,.int .u8 0,.int .i64 0,.int .i64 0,.int .i64 0,.int .i64 0,.int .i64 0,.bool false] e (0,0)):=st 0 v0 h;have h1:((w.setCell ⟨g,0,none⟩ v0).setCell ⟨g,1,none⟩ v1).heap[g]? =some (.cells #[v0,v1,.int .u8 0,.int .i64 0,.int .i64 0,.int .i64 0,.int .i64 0,.int .i64 0,.bool false] e (0,0)):=st 1 v1 A;have B:(((w.setCell ⟨g,0,none⟩ v0).setCell ⟨g,1,none⟩ v1).setCell ⟨g,2,none⟩ v2).heap[g]? =some (.cells #[v0,v1,v2,.int .i64 0,.int .i64 0,.int .i64 0,.int .i64 0,.int .i64 0,.bool false] e (0,0)):=st 2 v2 h1;have D:((((w.setCell ⟨g,0,none⟩ v0).setCell ⟨g,1,none⟩ v1).setCell ⟨g,2,none⟩ v2).setCell ⟨g,3,none⟩ v3).heap[g]? =some (.cells #[v0,v1,v2,v3,.int .i64 0,.int .i64 0,.int .i64 0,.int .i64 0,.bool false] e (0,0)):=st 3 v3 B;have E:(((((w.setCell ⟨g,0,none⟩ v0).setCell ⟨g,1,none⟩ v1).setCell ⟨g,2,none⟩ v2).setCell ⟨g,3,none⟩ v3).setCell ⟨g,4,none⟩ v4).heap[g]? =some (.cells #[v0,v1,v2,v3,v4,.int .i64 0,.int .i64 0,.int .i64 0,.bool false] e (0,0)):=st 4 v4 D;have G:((((((w.setCell ⟨g,0,none⟩ v0).setCell ⟨g,1,none⟩ v1).setCell ⟨g,2,none⟩ v2).setCell ⟨g,3,none⟩ v3).setCell ⟨g,4,none⟩ v4).setCell ⟨g,5,none⟩ v5).heap[g]? =some (.cells #[v0,v1,v2,v3,v4,v5,.int .i64 0,.int .i64 0,.bool false] e (0,0)):=st 5 v5 E;have H:(((((((w.setCell ⟨g,0,none⟩ v0).setCell ⟨g,1,none⟩ v1).setCell ⟨g,2,none⟩ v2).setCell ⟨g,3,none⟩ v3).setCell ⟨g,4,none⟩ v4).setCell ⟨g,5,none⟩ v5).setCell ⟨g,6,none⟩ v6).heap[g]? =some (.cells #[v0,v1,v2,v3,v4,v5,v6,.int .i64 0,.bool false] e (0,0)):=st 6 v6 G
 have I:((((((((w.setCell ⟨g,0,none⟩ v0).setCell ⟨g,1,none⟩ v1).setCell ⟨g,2,none⟩ v2).setCell ⟨g,3,none⟩ v3).setCell ⟨g,4,none⟩ v4).setCell ⟨g,5,none⟩ v5).setCell ⟨g,6,none⟩ v6).setCell ⟨g,7,none⟩ v7).heap[g]? =some (.cells #[v0,v1,v2,v3,v4,v5,v6,v7,.bool false] e (0,0)):=st 7 v7 H;have J:(((((((((w.setCell ⟨g,0,none⟩ v0).setCell ⟨g,1,none⟩ v1).setCell ⟨g,2,none⟩ v2).setCell ⟨g,3,none⟩ v3).setCell ⟨g,4,none⟩ v4).setCell ⟨g,5,none⟩ v5).setCell ⟨g,6,none⟩ v6).setCell ⟨g,7,none⟩ v7).setCell ⟨g,8,none⟩ v8).heap[g]? =some (.cells #[v0,v1,v2,v3,v4,v5,v6,v7,v8] e (0,0)):=st 8 v8 I;exact J
theorem qI {w0:World} (h:Kept (aA g) w0 w) (v0 v1 v2 v3 v4 v5 v6 v7 v8:Value):
 Kept (aA g) w0 (((((((((w.setCell ⟨g,0,none⟩ v0).setCell ⟨g,1,none⟩ v1).setCell ⟨g,2,none⟩ v2).setCell ⟨g,3,none⟩ v3).setCell ⟨g,4,none⟩ v4).setCell ⟨g,5,none⟩ v5).setCell ⟨g,6,none⟩ v6).setCell ⟨g,7,none⟩ v7).setCell ⟨g,8,none⟩ v8):=by
 have st:∀{w:World} (i:Nat) (v:Value),Kept (aA g) w0 w→Kept (aA g) w0 (w.setCell ⟨g,i,none⟩ v):=fun i v h=>h.setCell (a:=⟨g,i,none⟩) (Or.inr (show aA g g from rfl)) v
 exact st 8 v8 (st 7 v7 (st 6 v6 (st 5 v5 (st 4 v4 (st 3 v3 (st 2 v2 (st 1 v1 (st 0 v0 h))))))))
theorem xn:str eA=⟨#[117,115,116,97,114,0,48,48]⟩:=rfl
theorem EJ:str rf=⟨#[117,115,116,97,114,32,32,0]⟩:=rfl
end Head
namespace Rec
open Path
def zd (R T:Int) (l:List UInt8) (w:World) (e:Ending) (w':World):Prop:=
 ∃p c,e=.returned (.tuple #[.slice p (cI R T l).1.length c,.int .i64 (cI R T l).2])∧(cI R T l).1.length≤c∧c≤maxLen∧cf w' p (cI R T l).1.length (cI R T l).1∧Below w.heap.size w w'
theorem pg (R T:Int) (l:List UInt8) (w w':World) (er:Int) (h:cI R T l=([],er)) (hb:Below w.heap.size w w'):zd R T l w (.returned (.tuple #[.slice none 0 0,.int .i64 er])) w':=
 ⟨none,0,by rw[h];rfl,by rw[h];exact Qk _,by decide,by rw[h];exact⟨rfl,fun h=>absurd h (by simp)⟩,hb⟩
end Rec
namespace Head
open Hp Go.Proofs.YtdhibldkldlfpaaGreatDoor.Mp
noncomputable def aS:Array Oper:=tV Tryz.f74 13
def pV (B Q:Nat) (mg nm ln:ByteArray) (fp:Bool) (kd v1 v2 v3 v4 v5:Int):Nat→Value
 |0=>.map (some B)|1=>.string mg|2=>.bool fp|3=>.string nm|4=>.map (some B)|5=>.string ln|6=>.map (some B)|7=>.int .u8 kd
 |8=>.map (some Q)|9=>.int .i64 v1|10=>.map (some Q)|11=>.int .i64 v2|12=>.map (some Q)|13=>.int .i64 v3|14=>.map (some Q)|15=>.int .i64 v5
 |16=>.agg #[.int .i64 v1,.int .i64 v2,.int .i64 v3,.int .i64 v5]|17=>.map (some Q)|18=>.int .i64 v4|19=>.string mg|20=>.bool fp
 |21=>.agg #[.string nm,.string ln,.int .u8 kd,.int .i64 v1,.int .i64 v2,.int .i64 v3,.int .i64 v5,.int .i64 v4,.bool fp]|23=>.int .i64 0|_=>undef
theorem tL:aS.size=24:=rfl
theorem AE:xD aS 73=true:=by kernel_rfl
theorem Y5:∃o,aS[0]? =some o∧o.op=.move (.tmp 4)∧o.dst=some 51:=⟨_,rfl,rfl,rfl⟩
theorem Y6:∃o,aS[1]? =some o∧o.op=.move (.tmp 7)∧o.dst=some 52:=⟨_,rfl,rfl,rfl⟩
theorem Y7:∃o,aS[2]? =some o∧o.op=.binOp .eql 9 (.tmp 52) (.const (.string ⟨#[117,115,116,97,114,32,32,0]⟩)) 9∧o.dst=some 53:=⟨_,rfl,rfl,rfl⟩
theorem Y8:∃o,aS[3]? =some o∧o.op=.call {callee:=.value (.func 105),args:=#[.tmp 51,.tmp 53],argTypes:=#[166,4]}∧o.dst=some 54:=⟨_,rfl,rfl,rfl⟩
theorem Y9:∃o,aS[4]? =some o∧o.op=.move (.tmp 4)∧o.dst=some 55:=⟨_,rfl,rfl,rfl⟩
theorem Za:∃o,aS[5]? =some o∧o.op=.call {callee:=.value (.func 106),args:=#[.tmp 55,.const (.int .i64 8)],argTypes:=#[166,170]}∧o.dst=some 56:=⟨_,rfl,rfl,rfl⟩
theorem Zb:∃o,aS[6]? =some o∧o.op=.move (.tmp 4)∧o.dst=some 57:=⟨_,rfl,rfl,rfl⟩
theorem Zc:∃o,aS[7]? =some o∧o.op=.call {callee:=.value (.func 107),args:=#[.tmp 57],argTypes:=#[166]}∧o.dst=some 58:=⟨_,rfl,rfl,rfl⟩
theorem pop8:∃o,aS[8]? =some o∧o.op=.move (.tmp 8)∧o.dst=some 59:=⟨_,rfl,rfl,rfl⟩
theorem Zd:∃o,aS[9]? =some o∧o.op=.lookup 171 (.tmp 59) (.const (.int .i64 1)) false∧o.dst=some 60:=⟨_,rfl,rfl,rfl⟩
theorem U6:∃o,aS[10]? =some o∧o.op=.move (.tmp 8)∧o.dst=some 61:=⟨_,rfl,rfl,rfl⟩
theorem U7:∃o,aS[11]? =some o∧o.op=.lookup 171 (.tmp 61) (.const (.int .i64 2)) false∧o.dst=some 62:=⟨_,rfl,rfl,rfl⟩
theorem U8:∃o,aS[12]? =some o∧o.op=.move (.tmp 8)∧o.dst=some 63:=⟨_,rfl,rfl,rfl⟩
theorem U9:∃o,aS[13]? =some o∧o.op=.lookup 171 (.tmp 63) (.const (.int .i64 3)) false∧o.dst=some 64:=⟨_,rfl,rfl,rfl⟩
theorem Va:∃o,aS[14]? =some o∧o.op=.move (.tmp 8)∧o.dst=some 65:=⟨_,rfl,rfl,rfl⟩
theorem Vb:∃o,aS[15]? =some o∧o.op=.lookup 171 (.tmp 65) (.const (.int .i64 5)) false∧o.dst=some 66:=⟨_,rfl,rfl,rfl⟩
theorem Vc:∃o,aS[16]? =some o∧o.op=.build 46 #[(0,.tmp 60),(1,.tmp 62),(2,.tmp 64),(3,.tmp 66)]∧o.dst=some 67:=⟨_,rfl,rfl,rfl⟩
theorem Vd:∃o,aS[17]? =some o∧o.op=.move (.tmp 8)∧o.dst=some 68:=⟨_,rfl,rfl,rfl⟩
theorem Ve:∃o,aS[18]? =some o∧o.op=.lookup 171 (.tmp 68) (.const (.int .i64 4)) false∧o.dst=some 69:=⟨_,rfl,rfl,rfl⟩
theorem Vf:∃o,aS[19]? =some o∧o.op=.move (.tmp 7)∧o.dst=some 70:=⟨_,rfl,rfl,rfl⟩
theorem Vg:∃o,aS[20]? =some o∧o.op=.binOp .eql 9 (.tmp 70) (.const (.string ⟨#[117,115,116,97,114,32,32,0]⟩)) 9∧o.dst=some 71:=⟨_,rfl,rfl,rfl⟩
theorem Vh:∃o,aS[21]? =some o∧o.op=.build 66 #[(0,.tmp 54),(1,.tmp 56),(2,.tmp 58),(3,.tmp 67),(4,.tmp 69),(5,.tmp 71)]∧o.dst=some 72:=⟨_,rfl,rfl,rfl⟩
theorem Vi:∃o,aS[22]? =some o∧o.op=.store 66 (.tmp 2) (.tmp 72)∧o.dst=none:=⟨_,rfl,rfl,rfl⟩
theorem PJ:∃o,aS[23]? =some o∧o.op=.assign (.const (.int .i64 0))∧o.dst=some 3:=⟨_,rfl,rfl,rfl⟩
theorem Cg (w:World) (a b c d:Int):(Instr.build 46 #[(0,.int .i64 a),(1,.int .i64 b),(2,.int .i64 c),(3,.int .i64 d)]).run Tryz.prog w=.ok (.agg #[.int .i64 a,.int .i64 b,.int .i64 c,.int .i64 d]) w:=by kernel_rfl
theorem Cf (w:World) (n l:ByteArray) (k a b c d s:Int) (g:Bool):(Instr.build 66 #[(0,.string n),(1,.string l),(2,.int .u8 k),(3,.agg #[.int .i64 a,.int .i64 b,.int .i64 c,.int .i64 d]),(4,.int .i64 s),(5,.bool g)]).run Tryz.prog w=.ok (.agg #[.string n,.string l,.int .u8 k,.int .i64 a,.int .i64 b,.int .i64 c,.int .i64 d,.int .i64 s,.bool g]) w:=by kernel_rfl
theorem Jb {o:Oper} {a:Act} {K:Act→World→Prop} {Q:Exit→Act→World→Prop} (p x:Operand) (ho:o.op=.store 66 p x) (g:Nat) (hp:a.eval p=.pointer (some ⟨g,0,none⟩)) (n l:ByteArray) (k m u i t s:Int) (b:Bool)
 (hx:a.eval x=.agg #[.string n,.string l,.int .u8 k,.int .i64 m,.int .i64 u,.int .i64 i,.int .i64 t,.int .i64 s,.bool b]) (hz:w.heap[g]? =some (.cells gK 66 (0,0)))
 (h:∀w',w'.heap[g]? =some (.cells #[.string n,.string l,.int .u8 k,.int .i64 m,.int .i64 u,.int .i64 i,.int .i64 t,.int .i64 s,.bool b] 66 (0,0))→Kept (aA g) w w'→K (a.put o.dst undef) w'):Oper.wp Tryz.prog o a w K Q:=by
 have c0:=cn hz;have f0:=fu hz;have A:=mV hz;have D:=qI (Kept.refl (aA g) w);unfold gK at c0;clear hz
 have B:(execOp a.eval o).run Tryz.prog w=.ok .skip (((((((((w.setCell ⟨g,0,none⟩ (.string n)).setCell ⟨g,1,none⟩ (.string l)).setCell ⟨g,2,none⟩ (.int .u8 k)).setCell ⟨g,3,none⟩ (.int .i64 m)).setCell ⟨g,4,none⟩ (.int .i64 u)).setCell ⟨g,5,none⟩ (.int .i64 i)).setCell ⟨g,6,none⟩ (.int .i64 t)).setCell ⟨g,7,none⟩ (.int .i64 s)).setCell ⟨g,8,none⟩ (.bool b)):=by
  generalize a.eval=ev at hp hx;simp[go_sem,execOp,ho,hp,hx,c0,f0,Result.andThen]
 unfold Oper.wp;rw[B,Oper.upon_skip];exact h _ (A _ _ _ _ _ _ _ _ _) (D _ _ _ _ _ _ _ _ _)
theorem o9 {Q':Exit→Act→World→Prop} {a0:Act} {w3:World} (g lo B Q:Nat) (r:Nat→Nat) (own:Nat→List UInt8) (mg:ByteArray) (fp:Bool) (v1 v2 v3 v4 v5:Int)
 (hsz:73≤a0.tmps.size) (h2:a0.eval (.tmp 2)=.pointer (some ⟨g,0,none⟩)) (h4:a0.eval (.tmp 4)=.map (some B)) (h7:a0.eval (.tmp 7)=.string mg) (h8:a0.eval (.tmp 8)=.map (some Q))
 (hP:aZ w3 lo B r own) (hBg:B≠g) (hrg:∀i,i<11→r i≠g) (hz:w3.heap[g]? =some (.cells gK 66 (0,0)))
 (NV:∀w',Kept (aA g) w3 w'→(Instr.lookup 171 (.map (some Q)) (.int .i64 1) false).run Tryz.prog w'=.ok (.int .i64 v1) w'∧(Instr.lookup 171 (.map (some Q)) (.int .i64 2) false).run Tryz.prog w'=.ok (.int .i64 v2) w'∧
  (Instr.lookup 171 (.map (some Q)) (.int .i64 3) false).run Tryz.prog w'=.ok (.int .i64 v3) w'∧(Instr.lookup 171 (.map (some Q)) (.int .i64 4) false).run Tryz.prog w'=.ok (.int .i64 v4) w'∧(Instr.lookup 171 (.map (some Q)) (.int .i64 5) false).run Tryz.prog w'=.ok (.int .i64 v5) w')
 (uP:(mg.toList==[117,115,116,97,114,32,32,0])=fp)
 (hQ:∀a' w',a'.defers=a0.defers→a'.eval (.tmp 2)=.pointer (some ⟨g,0,none⟩)→a'.eval (.tmp 3)=.int .i64 0→
  w'.heap[g]? =some (.cells #[.string (str (kq (aF (own 10)) (aF (own 0)) fp)),.string (str (aF (own 8))),.int .u8 ((wh (own 7)).toNat:Int),.int .i64 v1,.int .i64 v2,.int .i64 v3,.int .i64 v5,.int .i64 v4,.bool fp] 66 (0,0))→Kept (aA g) w3 w'→Q' .normal a' w'):
 wpAny Tryz.prog .any aS Q' aS.size (Array.replicate aS.size false) a0 w3.drew:=by
 have no:∀j,(Array.replicate aS.size false).getD j false=false:=fun j=>by
  rw[Array.getD_eq_getD_getElem?,Array.getElem?_replicate];split<;>rfl
 obtain⟨nm,Z⟩:∃nm,nm=str (kq (aF (own 10)) (aF (own 0)) fp):=⟨_,rfl⟩
 obtain⟨ln,Y⟩:∃ln,ln=str (aF (own 8)):=⟨_,rfl⟩
 obtain⟨kd,l⟩:∃kd:Int,kd=((wh (own 7)).toNat:Int):=⟨_,rfl⟩
 rw[←Z,←Y,←l]at hQ;obtain⟨C,f⟩:∃C:Array Value,C=#[.string nm,.string ln,.int .u8 kd,.int .i64 v1,.int .i64 v2,.int .i64 v3,.int .i64 v5,.int .i64 v4,.bool fp]:=⟨_,rfl⟩
 rw[←f]at hQ;refine Ec (pV B Q mg nm ln fp kd v1 v2 v3 v4 v5) a0 (fun listed w=>Kept (aA g) w3 w∧w.heap[g]? =some (.cells (if listed.getD 22 false=true then C else gK) 66 (0,0))) 73 AE hsz ?_ ?_ ⟨(Kept.refl _ w3).drew,by rw[no];exact hz⟩
 ·intro listed a w j o h H m I
  have c:=bA m;obtain⟨hk,O⟩:=h.wd
  have cK:∀w',j≠22→Kept ag w w'→Kept (aA g) w3 w'∧w'.heap[g]? =some (.cells (if(listed.setIfInBounds j true).getD 22 false=true then C else gK) 66 (0,0)):=fun w' X L=>by
   rw[ai c,if_neg (Ne.symm X)];exact⟨hk.trans (L.dX _),L.some_ O id⟩
  have p:j<24:=by
   have:=(Array.getElem?_eq_some_iff.1 H).1
   rwa [tL]at this
  have N:aZ w lo B r own:=hP.kept hk hBg hrg;obtain⟨z,l2,l3,l4,l5⟩:=NV w hk;have same:∀{j':Nat} {E:Oper},aS[j']? =some E→j=j'→E=o:=fun {j' E} h' e=>by subst e;exact Option.some.inj (h'.symm.trans H)
  rcases(show j=0∨j=1∨j=2∨j=3∨j=4∨j=5∨j=6∨j=7∨j=8∨j=9∨j=10∨j=11∨j=12∨j=13∨j=14∨j=15∨j=16∨j=17∨j=18∨j=19∨j=20∨j=21∨j=22∨j=23 by omega)with rfl|rfl|rfl|rfl|rfl|rfl|rfl|rfl|rfl|rfl|rfl|rfl|rfl|rfl|rfl|rfl|rfl|rfl|rfl|rfl|rfl|rfl|rfl|rfl
  ·obtain⟨E,A,D,G⟩:=Y5
   obtain rfl:=same A rfl;exact wp_move _ _ (Or.inl D) ((h.old (t:=4) (by kernel_rfl)).trans h4) ⟨rfl,cK w (by decide) (Kept.refl _ _)⟩
  ·obtain⟨E,A,D,G⟩:=Y6
   obtain rfl:=same A rfl;exact wp_move _ _ (Or.inl D) ((h.old (t:=7) (by kernel_rfl)).trans h7) ⟨rfl,cK w (by decide) (Kept.refl _ _)⟩
  ·obtain⟨E,A,D,G⟩:=Y7
   obtain rfl:=same A rfl;have e:=(h.get H I (i:=1) (d:=52) (by kernel_rfl) rfl)
   refine dO (.bool fp) ?_ ⟨rfl,cK w (by decide) (Kept.refl _ _)⟩;have e:a.eval (.tmp 52)=.string mg:=e;have U:a.eval (.const (.string ⟨#[117,115,116,97,114,32,32,0]⟩))=.string ⟨#[117,115,116,97,114,32,32,0]⟩:=rfl;generalize a.eval=ev at e U⊢;simp[go_sem,execOp,D,e,U,uP]
  ·obtain⟨E,A,D,G⟩:=Y8
   obtain rfl:=same A rfl;have J:a.eval (.tmp 51)=.map (some B):=(h.get H I (i:=0) (d:=51) (by kernel_rfl) rfl)
   have M:a.eval (.tmp 53)=.bool fp:=(h.get H I (i:=2) (d:=53) (by kernel_rfl) rfl)
   refine pq _ _ _ D #[.map (some B),.bool fp] (by simp[J,M]) (enters_of Tryz.func105 (by kernel_rfl) rfl) (.string nm) (fun w'=>Kept ag w w') ?_ (fun w' L=>⟨rfl,cK w' (by decide) L⟩);rw[Z];exact Ls lo B r own fp w N
  ·obtain⟨E,A,D,G⟩:=Y9
   obtain rfl:=same A rfl;exact wp_move _ _ (Or.inl D) ((h.old (t:=4) (by kernel_rfl)).trans h4) ⟨rfl,cK w (by decide) (Kept.refl _ _)⟩
  ·obtain⟨E,A,D,G⟩:=Za
   obtain rfl:=same A rfl;have J:a.eval (.tmp 55)=.map (some B):=(h.get H I (i:=4) (d:=55) (by kernel_rfl) rfl)
   refine pq _ _ _ D #[.map (some B),.int .i64 8] (by simp[J,Kg]) (enters_of Tryz.func106 (by kernel_rfl) rfl) (.string ln) (fun w'=>Kept ag w w') ?_ (fun w' L=>⟨rfl,cK w' (by decide) L⟩);rw[Y];exact fT lo B r own 8 w (by omega) N
  ·obtain⟨E,A,D,G⟩:=Zb
   obtain rfl:=same A rfl;exact wp_move _ _ (Or.inl D) ((h.old (t:=4) (by kernel_rfl)).trans h4) ⟨rfl,cK w (by decide) (Kept.refl _ _)⟩
  ·obtain⟨E,A,D,G⟩:=Zc
   obtain rfl:=same A rfl;have J:a.eval (.tmp 57)=.map (some B):=(h.get H I (i:=6) (d:=57) (by kernel_rfl) rfl)
   refine pq _ _ _ D #[.map (some B)] (by simp[J]) (enters_of Tryz.func107 (by kernel_rfl) rfl) (.int .u8 kd) (fun w'=>Kept ag w w') ?_ (fun w' L=>⟨rfl,cK w' (by decide) L⟩);rw[l];refine(K9 lo B r own w N).mono ?_;rintro e w' ⟨rfl,rfl⟩;exact⟨rfl,Kept.refl _ _⟩
  ·obtain⟨E,A,D,G⟩:=pop8
   obtain rfl:=same A rfl;exact wp_move _ _ (Or.inl D) ((h.old (t:=8) (by kernel_rfl)).trans h8) ⟨rfl,cK w (by decide) (Kept.refl _ _)⟩
  ·obtain⟨E,A,D,G⟩:=Zd
   obtain rfl:=same A rfl;exact mX _ _ _ D _ _ _ (h.get H I (i:=8) (d:=59) (by kernel_rfl) rfl) rfl z ⟨rfl,cK w (by decide) (Kept.refl _ _)⟩
  ·obtain⟨E,A,D,G⟩:=U6
   obtain rfl:=same A rfl;exact wp_move _ _ (Or.inl D) ((h.old (t:=8) (by kernel_rfl)).trans h8) ⟨rfl,cK w (by decide) (Kept.refl _ _)⟩
  ·obtain⟨E,A,D,G⟩:=U7
   obtain rfl:=same A rfl;exact mX _ _ _ D _ _ _ (h.get H I (i:=10) (d:=61) (by kernel_rfl) rfl) rfl l2 ⟨rfl,cK w (by decide) (Kept.refl _ _)⟩
  ·obtain⟨E,A,D,G⟩:=U8
   obtain rfl:=same A rfl;exact wp_move _ _ (Or.inl D) ((h.old (t:=8) (by kernel_rfl)).trans h8) ⟨rfl,cK w (by decide) (Kept.refl _ _)⟩
  ·obtain⟨E,A,D,G⟩:=U9
   obtain rfl:=same A rfl;exact mX _ _ _ D _ _ _ (h.get H I (i:=12) (d:=63) (by kernel_rfl) rfl) rfl l3 ⟨rfl,cK w (by decide) (Kept.refl _ _)⟩
  ·obtain⟨E,A,D,G⟩:=Va
   obtain rfl:=same A rfl;exact wp_move _ _ (Or.inl D) ((h.old (t:=8) (by kernel_rfl)).trans h8) ⟨rfl,cK w (by decide) (Kept.refl _ _)⟩
  ·obtain⟨E,A,D,G⟩:=Vb
   obtain rfl:=same A rfl;exact mX _ _ _ D _ _ _ (h.get H I (i:=14) (d:=65) (by kernel_rfl) rfl) rfl l5 ⟨rfl,cK w (by decide) (Kept.refl _ _)⟩
  ·obtain⟨E,A,D,G⟩:=Vc
   obtain rfl:=same A rfl;have J:=(h.get H I (i:=9) (d:=60) (by kernel_rfl) rfl)
   have M:=(h.get H I (i:=11) (d:=62) (by kernel_rfl) rfl)
   have R:=(h.get H I (i:=13) (d:=64) (by kernel_rfl) rfl)
   have T:=(h.get H I (i:=15) (d:=66) (by kernel_rfl) rfl)
   refine dO _ ?_ ⟨rfl,cK w (by decide) (Kept.refl _ _)⟩;have b:=Cg w v1 v2 v3 v5;have J:a.eval (.tmp 60)=.int .i64 v1:=J;have M:a.eval (.tmp 62)=.int .i64 v2:=M;have R:a.eval (.tmp 64)=.int .i64 v3:=R;have T:a.eval (.tmp 66)=.int .i64 v5:=T;simp[execOp,D,J,M,R,T,b,Result.andThen,pV]
  ·obtain⟨E,A,D,G⟩:=Vd
   obtain rfl:=same A rfl;exact wp_move _ _ (Or.inl D) ((h.old (t:=8) (by kernel_rfl)).trans h8) ⟨rfl,cK w (by decide) (Kept.refl _ _)⟩
  ·obtain⟨E,A,D,G⟩:=Ve
   obtain rfl:=same A rfl;exact mX _ _ _ D _ _ _ (h.get H I (i:=17) (d:=68) (by kernel_rfl) rfl) rfl l4 ⟨rfl,cK w (by decide) (Kept.refl _ _)⟩
  ·obtain⟨E,A,D,G⟩:=Vf
   obtain rfl:=same A rfl;exact wp_move _ _ (Or.inl D) ((h.old (t:=7) (by kernel_rfl)).trans h7) ⟨rfl,cK w (by decide) (Kept.refl _ _)⟩
  ·obtain⟨E,A,D,G⟩:=Vg
   obtain rfl:=same A rfl;have e:=(h.get H I (i:=19) (d:=70) (by kernel_rfl) rfl)
   refine dO (.bool fp) ?_ ⟨rfl,cK w (by decide) (Kept.refl _ _)⟩;have e:a.eval (.tmp 70)=.string mg:=e;have U:a.eval (.const (.string ⟨#[117,115,116,97,114,32,32,0]⟩))=.string ⟨#[117,115,116,97,114,32,32,0]⟩:=rfl;generalize a.eval=ev at e U⊢;simp[go_sem,execOp,D,e,U,uP]
  ·obtain⟨E,A,D,G⟩:=Vh
   obtain rfl:=same A rfl;have J:a.eval (.tmp 54)=.string nm:=(h.get H I (i:=3) (d:=54) (by kernel_rfl) rfl)
   have M:a.eval (.tmp 56)=.string ln:=(h.get H I (i:=5) (d:=56) (by kernel_rfl) rfl)
   have R:a.eval (.tmp 58)=.int .u8 kd:=(h.get H I (i:=7) (d:=58) (by kernel_rfl) rfl)
   have T:a.eval (.tmp 67)=.agg #[.int .i64 v1,.int .i64 v2,.int .i64 v3,.int .i64 v5]:=(h.get H I (i:=16) (d:=67) (by kernel_rfl) rfl)
   have q:a.eval (.tmp 69)=.int .i64 v4:=(h.get H I (i:=18) (d:=69) (by kernel_rfl) rfl)
   have u:a.eval (.tmp 71)=.bool fp:=(h.get H I (i:=20) (d:=71) (by kernel_rfl) rfl)
   refine dO _ ?_ ⟨rfl,cK w (by decide) (Kept.refl _ _)⟩;have b:=Cf w nm ln kd v1 v2 v3 v5 v4 fp;simp[execOp,D,J,M,R,T,q,u,b,Result.andThen,pV]
  ·obtain⟨E,A,D,G⟩:=Vi
   obtain rfl:=same A rfl;have J:=(h.old (t:=2) (by kernel_rfl)).trans h2;have M:=(h.get H I (i:=21) (d:=72) (by kernel_rfl) rfl)
   have W:w.heap[g]? =some (.cells gK 66 (0,0)):=by rw[fv m]at O;exact O
   refine Jb _ _ D g J nm ln kd v1 v2 v3 v5 v4 fp M W (fun w' y L=>⟨rfl,hk.trans L,?_⟩);rw[ai c,if_pos rfl,if_pos rfl,f];exact y
  ·obtain⟨E,A,D,G⟩:=PJ
   obtain rfl:=same A rfl;exact wp_move _ _ (Or.inr D) rfl ⟨rfl,cK w (by decide) (Kept.refl _ _)⟩
 ·intro listed a w h V
  have all:∀j,j<24→listed.getD j false=true:=fun j X=>V j (by rw[tL];exact X)
  obtain⟨hk,O⟩:=h.wd;rw[all 22 (by omega),if_pos rfl]at O;obtain⟨E,A,_,G⟩:=PJ;exact hQ a w h.df ((h.old (t:=2) (by kernel_rfl)).trans h2) (h.done 23 E 3 A G (all 23 (by omega))) O hk
end Head
namespace Head
open Hp Go.Proofs.YtdhibldkldlfpaaGreatDoor.Mp Fp Go.Proofs.YtdhibldkldlfpaaGreatDoor.Field
theorem gC (p:Option Addr) (n c:Nat) (bs:List UInt8) (w:World) (hn:bs.length=n) (hc:n≤c) (sU:c≤maxLen) (h:cD w p n bs):
 Calls Tryz.prog 74 #[.slice p n c] w fun e w'=>e=.returned (kf (ba bs))∧Kept ag w w':=by
 have hm:c≤9223372036854775807:=by unfold maxLen at sU;omega
 have fl:=gv;have L:=Qh hn;have H:=Qh h;clear h hn
 by_cases QJ:n=512
 ·subst QJ
  obtain⟨g,z⟩:∃g,g=w.heap.size:=⟨_,rfl⟩
  obtain⟨R,u⟩:∃R,R=w.alloc (.cells #[.string ⟨#[]⟩,.string ⟨#[]⟩,.int .u8 0,.int .i64 0,.int .i64 0,.int .i64 0,.int .i64 0,.int .i64 0,.bool false] 66):=⟨_,rfl⟩
  have I:Hid (Kept ag w R):=Qh (by rw[u];exact(Kept.refl ag w).alloc _);have vy:Hid (R.heap[g]? =some (.cells gK 66 (0,0))):=Qh (by rw[u,z];exact heap_alloc_new w _);have Zo:Hid (g<R.heap.size):=Qh (Array.getElem?_eq_some_iff.1 vy.out).1;have SZ:Hid (g=w.heap.size):=Qh z;have T:Hid (w.heap.size≤g):=Qh (by omega)
  go_enter Tryz.func74,Tryz.ntmps74
  go_wp2_with fail
  rw[←u,←z];clear u z;refine(LS p c bs R L.out hc (by unfold maxLen;omega) (H.out.kept I.out (fun _ _ _=>id))).mono ?_;obtain⟨M,Q7⟩:∃M,M=R.heap.size:=⟨_,rfl⟩
  have MA:Hid (M=R.heap.size):=Qh Q7;rw[←Q7];clear Q7;rintro e w1 ⟨B,r,rfl,XA,dP⟩;have FK:=Qh XA;have fE:=Qh dP;have lk6:(Instr.lookup 166 (.map (some B)) (.int .i64 6) false).run Tryz.prog w1=.ok (.agg #[.int .i64 148,.slice (some ⟨r 6,0,none⟩) 8 8]) w1:=PG XA 6 (by omega);clear XA dP;go_wp2_with fail;refine(wM _ 8 8 (di bs 6) w1 (FK.out.fit 6) (Qk _) (by decide) (FK.out.ib (i:=6) (by omega))).mono ?_;rintro e w2 ⟨rfl,bY⟩;have dt:Kept ag w1 w2:=Kept.aR bY _;have O:=Qh (FK.out.cL dt);have N:=Qh (fE.out.trans dt);have D:=Qh (N.out.some_ vy.out id);clear bY dt lk6;rw[mi bs 6 (by omega)]
  cases xY:bk (aw bs 6)with
  |none=>
   have E:Hid (ba bs=(bI,3)):=Qh (vX L.out (by rw[xY];simp));rw[OQ,Om];have c0:=cn D.out;have f0:=fu D.out;unfold gK at c0;clear xY;go_wp2;refine bodyPost_ret (gZ rfl _ _ g _ rfl rfl ⟨#[]⟩ ⟨#[]⟩ 0 0 0 0 0 0 false (mV D.out _ _ _ _ _ _ _ _ _)) rfl ?_;rw[E.out]
   exact⟨rfl,(I.out.trans N.out).then (qI (Kept.refl (aA g) _) _ _ _ _ _ _ _ _ _) (fun i hi=>Or.inl (by
    have h1:i=g:=hi;rw[h1]
    exact T.out))⟩
  |some sm=>
   rw[OS,On];have lT:=xi (bs:=bs);have YD:=jq bs 512;have YJ:=pn bs 512;have hpf:=jq (aw bs 6) 8;obtain⟨X,hX⟩:∃X:Int,X=(dL bs 512:Nat):=⟨_,rfl⟩
   have hS:((bq bs 512:Nat):Int) - (bq (di bs 6) 8:Nat)+256=X:=by
    rw[mi bs 6 (by omega),hX];omega
   have HS:=Qh hS;have HX:=Qh hX;have Tf:=Qh xY;have Pc:cD w2 p 512 bs:=(H.out.kept I.out (fun _ _ _=>id)).kept N.out (fun _ _ _=>id);have bL:=Qh Pc;clear lT YD YJ hpf hX hS xY Pc
   by_cases YH:sm=X
   ·subst YH
    have d:Hid (bk (aw bs 6)=some (dL bs 512:Int)):=Qh (by rw[Tf.out,HX.out]);have hbX:(sm==sm)=true:=by simp
    go_wp2_with fail
    refine(yK M B r (di bs) p 512 c bs w2 (by omega) bL.out O.out).mono ?_;rintro e w2' ⟨rfl,rfl⟩;rw[HS.out];have lk9:(Instr.lookup 166 (.map (some B)) (.int .i64 9) false).run Tryz.prog w2=.ok (.agg #[.int .i64 257,.slice (some ⟨r 9,0,none⟩) 8 8]) w2:=PG O.out 9 (by omega)
    have ZN:(convert 26 9 (.slice (some ⟨r 9,0,none⟩) 8 8)).run Tryz.prog w2=.ok (.string (str (aw bs 9))) w2:=by
     have:=cF (P:=Tryz.prog) (O.out.ib (i:=9) (by omega)) (O.out.fit 9) 26 5 9 Tryz.underlying26 Tryz.underlying5 Tryz.underlying9 8;rw[mi bs 9 (by omega)]at this;exact this
    by_cases hu:aw bs 9=eA
    ·have t:Hid (aw bs 9=eA∨aw bs 9=rf):=Qh (Or.inl hu)
     have Ri:=hu;rw[hu,xn]at ZN;clear hu;have b:Hid (qB bs=false):=Qh (by rw[qB,Ri];decide);go_wp2_with fail;refine(qO M B r (di bs) w2 O.out).mono ?_;intro e w3 m;obtain⟨A,(⟨q,Q,rfl,U⟩|⟨o,rfl⟩)⟩:=m
     ·have HT:Hid (ba bs=(iM bs,0)):=Qh (sP L.out d.out t.out (by rw[←kU];exact q))
      have W:=Qh (N.out.trans A);have G:=Qh (A.some_ D.out id);have Y:=Qh (O.out.cL A);have Th:=Qh U
      have f:Q≠g∧B≠g∧∀i,i<11→r i≠g:=by
       have l:=Zo.out;have m:=MA.out;refine⟨fun e=>?_,fun e=>?_,fun i hi e=>?_⟩
       ·obtain⟨es,clock,y,_⟩:=U
        have h1:=G.out;rw[←e,y]at h1
        cases h1
       ·have h1:=Y.out.lo.1
        omega
       ·have h1:=Y.out.lo.2 i hi
        omega
      have V:=Qh f;clear f
      have PR:Hid (∀w',Kept (aA g) w3 w'→
       (Instr.lookup 171 (.map (some Q)) (.int .i64 1) false).run Tryz.prog w'=.ok (.int .i64 (dM bs 1)) w'∧
       (Instr.lookup 171 (.map (some Q)) (.int .i64 2) false).run Tryz.prog w'=.ok (.int .i64 (dM bs 2)) w'∧
       (Instr.lookup 171 (.map (some Q)) (.int .i64 3) false).run Tryz.prog w'=.ok (.int .i64 (dM bs 3)) w'∧
       (Instr.lookup 171 (.map (some Q)) (.int .i64 4) false).run Tryz.prog w'=.ok (.int .i64 (dM bs 4)) w'∧
       (Instr.lookup 171 (.map (some Q)) (.int .i64 5) false).run Tryz.prog w'=.ok (.int .i64 (dM bs 5)) w'):=Qh (fun w' hk=>by
       have hq:=Th.out.kept hk V.out.1
       have J:∀i,1≤i→i≤5→(Instr.lookup 171 (.map (some Q)) (kj i) false).run Tryz.prog w'=.ok (.int .i64 (dM bs i)) w':=fun i h1 l=>
        hq.look (P:=Tryz.prog) Tryz.underlying171 Tryz.underlying170 (by rw[oZ _ h1 l,mi bs i (by omega)];rfl)
       exact⟨J 1 (by omega) (by omega),J 2 (by omega) (by omega),J 3 (by omega) (by omega),J 4 (by omega) (by omega),J 5 (by omega) (by omega)⟩)
      clear A q U;go_wp2_with fail;refine wp_region_any (by kernel_rfl) (o9 (w3:=w3) g M B Q r (di bs) ⟨#[117,115,116,97,114,0,48,48]⟩ false (dM bs 1) (dM bs 2) (dM bs 3) (dM bs 4) (dM bs 5) (show 73≤73 from Qk 73) rfl rfl rfl rfl Y.out V.out.2.1 V.out.2.2 G.out (fun w' hk=>PR.out w' hk) (by rw[←xn,av];decide) ?_);intro a' w' XZ rh O9 gd iH;have hT:(iM bs).fp=false:=b.out
      have PY:Hid (kf (ba bs)=.tuple #[.agg #[.string (str (kq (aF (di bs 10)) (aF (di bs 0)) false)),.string (str (aF (di bs 8))),.int .u8 ((wh (di bs 7)).toNat:Int),.int .i64 (dM bs 1),.int .i64 (dM bs 2),.int .i64 (dM bs 3),.int .i64 (dM bs 5),.int .i64 (dM bs 4),.bool false],.int .i64 0]):=Qh (by
       rw[HT.out];simp only[kf,aa,iM,b.out]
       rfl)
      simp only[Exit.then]
      apply_assumption
      go_wp2;refine bodyPost_ret (gZ rfl _ _ g (.int .i64 0) rh O9 _ _ _ _ _ _ _ _ _ gd) XZ ?_;rw[PY.out]
      exact⟨rfl,(I.out.trans W.out).then iH (fun i hi=>Or.inl (by
       have h1:i=g:=hi;rw[h1]
       exact T.out))⟩
     ·have E:Hid (ba bs=(bI,4)):=Qh (vW L.out d.out t.out (by rw[←kU];exact o))
      have W:=Qh (N.out.trans A);have G:=Qh (A.some_ D.out id);have c0:=cn G.out;have f0:=fu G.out;unfold gK at c0;clear A o;go_wp2;refine bodyPost_ret (gZ rfl _ _ g _ rfl rfl ⟨#[]⟩ ⟨#[]⟩ 0 0 0 0 0 0 false (mV G.out _ _ _ _ _ _ _ _ _)) rfl ?_;rw[E.out]
      exact⟨rfl,(I.out.trans W.out).then (qI (Kept.refl (aA g) _) _ _ _ _ _ _ _ _ _) (fun i hi=>Or.inl (by
       have h1:i=g:=hi;rw[h1]
       exact T.out))⟩
    ·by_cases Z:aw bs 9=rf
     ·have t:Hid (aw bs 9=eA∨aw bs 9=rf):=Qh (Or.inr Z)
      have Ri:=Z;rw[Z,EJ]at ZN;clear hu Z;have b:Hid (qB bs=true):=Qh (by rw[qB,Ri];decide);go_wp2_with fail;refine(qO M B r (di bs) w2 O.out).mono ?_;intro e w3 m;obtain⟨A,(⟨q,Q,rfl,U⟩|⟨o,rfl⟩)⟩:=m
      ·have HT:Hid (ba bs=(iM bs,0)):=Qh (sP L.out d.out t.out (by rw[←kU];exact q))
       have W:=Qh (N.out.trans A);have G:=Qh (A.some_ D.out id);have Y:=Qh (O.out.cL A);have Th:=Qh U
       have f:Q≠g∧B≠g∧∀i,i<11→r i≠g:=by
        have l:=Zo.out;have m:=MA.out;refine⟨fun e=>?_,fun e=>?_,fun i hi e=>?_⟩
        ·obtain⟨es,clock,y,_⟩:=U
         have h1:=G.out;rw[←e,y]at h1
         cases h1
        ·have h1:=Y.out.lo.1
         omega
        ·have h1:=Y.out.lo.2 i hi
         omega
       have V:=Qh f;clear f
       have PR:Hid (∀w',Kept (aA g) w3 w'→
        (Instr.lookup 171 (.map (some Q)) (.int .i64 1) false).run Tryz.prog w'=.ok (.int .i64 (dM bs 1)) w'∧
        (Instr.lookup 171 (.map (some Q)) (.int .i64 2) false).run Tryz.prog w'=.ok (.int .i64 (dM bs 2)) w'∧
        (Instr.lookup 171 (.map (some Q)) (.int .i64 3) false).run Tryz.prog w'=.ok (.int .i64 (dM bs 3)) w'∧
        (Instr.lookup 171 (.map (some Q)) (.int .i64 4) false).run Tryz.prog w'=.ok (.int .i64 (dM bs 4)) w'∧
        (Instr.lookup 171 (.map (some Q)) (.int .i64 5) false).run Tryz.prog w'=.ok (.int .i64 (dM bs 5)) w'):=Qh (fun w' hk=>by
        have hq:=Th.out.kept hk V.out.1
        have J:∀i,1≤i→i≤5→(Instr.lookup 171 (.map (some Q)) (kj i) false).run Tryz.prog w'=.ok (.int .i64 (dM bs i)) w':=fun i h1 l=>
         hq.look (P:=Tryz.prog) Tryz.underlying171 Tryz.underlying170 (by rw[oZ _ h1 l,mi bs i (by omega)];rfl)
        exact⟨J 1 (by omega) (by omega),J 2 (by omega) (by omega),J 3 (by omega) (by omega),J 4 (by omega) (by omega),J 5 (by omega) (by omega)⟩)
       clear A q U;go_wp2_with fail;refine wp_region_any (by kernel_rfl) (o9 (w3:=w3) g M B Q r (di bs) ⟨#[117,115,116,97,114,32,32,0]⟩ true (dM bs 1) (dM bs 2) (dM bs 3) (dM bs 4) (dM bs 5) (show 73≤73 from Qk 73) rfl rfl rfl rfl Y.out V.out.2.1 V.out.2.2 G.out (fun w' hk=>PR.out w' hk) (by rw[←EJ,av];decide) ?_);intro a' w' XZ rh O9 gd iH;have hT:(iM bs).fp=true:=b.out
       have PY:Hid (kf (ba bs)=.tuple #[.agg #[.string (str (kq (aF (di bs 10)) (aF (di bs 0)) true)),.string (str (aF (di bs 8))),.int .u8 ((wh (di bs 7)).toNat:Int),.int .i64 (dM bs 1),.int .i64 (dM bs 2),.int .i64 (dM bs 3),.int .i64 (dM bs 5),.int .i64 (dM bs 4),.bool true],.int .i64 0]):=Qh (by
        rw[HT.out];simp only[kf,aa,iM,b.out]
        rfl)
       simp only[Exit.then]
       apply_assumption
       go_wp2;refine bodyPost_ret (gZ rfl _ _ g (.int .i64 0) rh O9 _ _ _ _ _ _ _ _ _ gd) XZ ?_;rw[PY.out]
       exact⟨rfl,(I.out.trans W.out).then iH (fun i hi=>Or.inl (by
        have h1:i=g:=hi;rw[h1]
        exact T.out))⟩
      ·have E:Hid (ba bs=(bI,4)):=Qh (vW L.out d.out t.out (by rw[←kU];exact o))
       have W:=Qh (N.out.trans A);have G:=Qh (A.some_ D.out id);have c0:=cn G.out;have f0:=fu G.out;unfold gK at c0;clear A o;go_wp2;refine bodyPost_ret (gZ rfl _ _ g _ rfl rfl ⟨#[]⟩ ⟨#[]⟩ 0 0 0 0 0 0 false (mV G.out _ _ _ _ _ _ _ _ _)) rfl ?_;rw[E.out]
       exact⟨rfl,(I.out.trans W.out).then (qI (Kept.refl (aA g) _) _ _ _ _ _ _ _ _ _) (fun i hi=>Or.inl (by
        have h1:i=g:=hi;rw[h1]
        exact T.out))⟩
     ·have E:Hid (ba bs=(bI,9)):=Qh (CJ L.out d.out ⟨hu,Z⟩)
      have q1:((str (aw bs 9)).toList==[117,115,116,97,114,0,48,48])=false:=by rw[av];exact beq_eq_false_iff_ne.2 hu
      have q2:((str (aw bs 9)).toList==[117,115,116,97,114,32,32,0])=false:=by rw[av];exact beq_eq_false_iff_ne.2 Z
      have c0:=cn D.out;have f0:=fu D.out;unfold gK at c0;clear hu Z;go_wp2;refine bodyPost_ret (gZ rfl _ _ g _ rfl rfl ⟨#[]⟩ ⟨#[]⟩ 0 0 0 0 0 0 false (mV D.out _ _ _ _ _ _ _ _ _)) rfl ?_;rw[E.out]
      exact⟨rfl,(I.out.trans N.out).then (qI (Kept.refl (aA g) _) _ _ _ _ _ _ _ _ _) (fun i hi=>Or.inl (by
       have h1:i=g:=hi;rw[h1]
       exact T.out))⟩
   ·have E:Hid (ba bs=(bI,3)):=Qh (vX L.out (by
     rw[Tf.out,←HX.out];intro e
     exact YH (Option.some.inj e)))
    have hbX:(sm==X)=false:=by simpa using YH
    have c0:=cn D.out;have f0:=fu D.out;unfold gK at c0;go_wp2_with fail;refine(yK M B r (di bs) p 512 c bs w2 (by omega) bL.out O.out).mono ?_;rintro e w2' ⟨rfl,rfl⟩;rw[HS.out];go_wp2;refine bodyPost_ret (gZ rfl _ _ g _ rfl rfl ⟨#[]⟩ ⟨#[]⟩ 0 0 0 0 0 0 false (mV D.out _ _ _ _ _ _ _ _ _)) rfl ?_;rw[E.out]
    exact⟨rfl,(I.out.trans N.out).then (qI (Kept.refl (aA g) _) _ _ _ _ _ _ _ _ _) (fun i hi=>Or.inl (by
     have h1:i=g:=hi;rw[h1]
     exact T.out))⟩
 ·have E:Hid (ba bs=(bI,1)):=Qh (G4 (by rw[L.out];exact QJ))
  have y:((n:Int)==512)=false:=by simp;omega
  have eB:Kept ag w (w.alloc (.cells #[.string ⟨#[]⟩,.string ⟨#[]⟩,.int .u8 0,.int .i64 0,.int .i64 0,.int .i64 0,.int .i64 0,.int .i64 0,.bool false] 66)):=(Kept.refl ag w).alloc _;have I:=Qh eB;clear eB
  go_enter Tryz.func74,Tryz.ntmps74
  go_wp2;refine bodyPost_ret (gZ rfl _ _ w.heap.size _ rfl rfl ⟨#[]⟩ ⟨#[]⟩ 0 0 0 0 0 0 false (heap_alloc_new _ _)) rfl ?_;rw[E.out];exact⟨rfl,I.out⟩
end Head
end Go.Proofs.YtdhibldkldlfpaaGreatDoor
