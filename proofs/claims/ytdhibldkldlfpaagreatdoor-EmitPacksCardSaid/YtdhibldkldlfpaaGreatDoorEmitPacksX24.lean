/- Merged. -/
import Derived.Test.YtdhibldkldlfpaaGreatDoorEmitPacksX11
import Derived.Deep.RegionHeldLaw
import Derived.Laws.AppendOwnNone
import Derived.Test.YtdhibldkldlfpaaGreatDoorEmitPacksX21
import Derived.Test.YtdhibldkldlfpaaGreatDoorEmitPacksX20
namespace Go.Proofs.YtdhibldkldlfpaaGreatDoor
set_option linter.unusedVariables false
set_option maxHeartbeats 4000000
set_option maxRecDepth 100000
open Go.ChangeShapes Go.WideShapes Go.ChangeAt Go.RowKit Base cf cN Go.Lib
variable {B g j:Nat} {v:Value} {w:World}
namespace Rec
open Path
variable {rs:List (List UInt8 × List UInt8)}
def eE (rs:List (List UInt8 × List UInt8)):List Value:=rs.flatMap fun r=>[.string (str r.1),.string (str r.2)]
theorem ql (rs:List (List UInt8 × List UInt8)):(eE rs).length=2*rs.length:=by
 induction rs with
 |nil=>rfl
 |cons r rs ih=>simp only[eE,List.flatMap_cons,Qf,List.length_cons,List.length_nil]at ih⊢;omega
theorem Fi (rs:List (List UInt8 × List UInt8)) (k v:List UInt8):eE (rs++[(k,v)])=eE rs++[.string (str k),.string (str v)]:=by simp[eE]
theorem yw (rs:List (List UInt8 × List UInt8)):∀i,i<rs.length→(eE rs)[2*i]? =some (.string (str (rs.getD i ([],[])).1))∧(eE rs)[2*i+1]? =some (.string (str (rs.getD i ([],[])).2)):=by
 induction rs with
 |nil=>intro i h;simp at h
 |cons r rs ih=>
  intro i h
  cases i with
  |zero=>exact⟨rfl,rfl⟩
  |succ i=>
   have:=ih i (by simpa using h);have e:eE (r::rs)=.string (str r.1)::.string (str r.2)::eE rs:=rfl;rw[e,show 2*(i+1)=2*i+1+1 by omega]
   simpa using this
def cM (w:World) (p:Option Addr) (n:Nat) (rs:List (List UInt8 × List UInt8)):Prop:=
 rs.length=n∧(0<n→∃b o,p=some ⟨b,o,none⟩∧b<w.heap.size∧∀i,i<n→w.cell? ⟨b,o+2*i,none⟩=some (.string (str (rs.getD i ([],[])).1))∧w.cell? ⟨b,o+2*i+1,none⟩=some (.string (str (rs.getD i ([],[])).2)))
theorem cM.below {w':World} {p:Option Addr} {n:Nat} (h:cM w p n rs) (hb:Below w.heap.size w w'):cM w' p n rs:=by
 refine⟨h.1,fun B=>?_⟩;obtain⟨b,o,rfl,A,hc⟩:=h.2 B;refine⟨b,o,rfl,Nat.lt_of_lt_of_le A hb.size,fun i hi=>⟨?_,?_⟩⟩
 ·rw[hb.cell (p:=⟨b,o+2*i,none⟩) A];exact(hc i hi).1
 ·rw[hb.cell (p:=⟨b,o+2*i+1,none⟩) A];exact(hc i hi).2
theorem nP {base:Nat} {e:TypeId} (h:w.ownsRow base e 2 v rs.length (eE rs)):∃p c,v=.slice p rs.length c∧rs.length≤c∧c≤maxLen∧cM w p rs.length rs:=by
 rcases h.2 with⟨rfl,A⟩|⟨g,cap,cur,rfl,hb,hg,hn,hc,hs,ht⟩
 ·exact⟨none,0,by rw[A],by omega,by decide,rfl,fun h=>by omega⟩
 ·refine⟨some ⟨g,0,none⟩,cap,rfl,hn,hc,rfl,fun A=>⟨g,0,rfl,(Array.getElem?_eq_some_iff.1 hg).1,fun i hi=>?_⟩⟩
  have get:∀j,j<2*rs.length→w.cell? ⟨g,j,none⟩=(eE rs)[j]? :=fun j B=>by
   unfold World.cell?;rw[hg,←ht,List.getElem?_take,if_pos (by omega)];simp
  obtain⟨g1,g2⟩:=yw rs i hi;rw[Nat.zero_add];exact⟨by rw[get _ (by omega)];exact g1,by rw[get _ (by omega)];exact g2⟩
theorem IG:(Tryz.prog.info? 121).map (fun i=>(i.zero,i.size,i.bytes))=some (some (.agg #[.string ⟨#[]⟩,.string ⟨#[]⟩]),2,32):=by kernel_rfl
theorem Ia (l:List UInt8):∀k,k≤l.length→(∀j,j<k→bL (l.getD j 0)=true)→(k=l.length∨bL (l.getD k 0)=false)→iu l=k:=by
 unfold iu
 induction l with
 |nil=>intro k h _ _;simp at h;simp[h]
 |cons b l ih=>
  intro k hk hd he
  cases k with
  |zero=>
   rcases he with h|h
   ·simp at h
   ·rw[List.takeWhile_cons,show bL b=false from h];rfl
  |succ k=>
   have A:bL b=true:=hd 0 (by omega);rw[List.takeWhile_cons,A,if_pos rfl,List.length_cons,ih k (by simpa using hk) (fun j B=>by simpa using hd (j+1) (by omega)) (by simpa using he)]
theorem Wm (l:List UInt8):∀b∈l.takeWhile bL,bL b=true:=by
 induction l with
 |nil=>simp
 |cons c l ih=>
  intro b A;rw[List.takeWhile_cons]at A;split at A
  ·next h=>
   rcases List.mem_cons.1 A with rfl|h1
   ·exact h
   ·exact ih b h1
  ·cases A
theorem Ki (l:List UInt8):iu l≤l.length∧∀b∈l.take (iu l),bL b=true:=by
 unfold iu;have B:l.takeWhile bL<+:l:=List.takeWhile_prefix _;refine⟨B.length_le,fun b A=>?_⟩;rw[←List.prefix_iff_eq_take.1 B]at A;exact Wm l b A
end Rec
namespace Rec
theorem Kz (a b:List (List UInt8 × List UInt8)):eE (a++b)=eE a++eE b:=by simp[eE]
theorem KA (rs:List (List UInt8 × List UInt8)):∀u∈eE rs,u.oneCell'=true:=by
 intro u hu;obtain⟨r,_,hr⟩:=List.mem_flatMap.1 hu;rcases List.mem_cons.1 hr with rfl|hr
 ·rfl
 ·rcases List.mem_cons.1 hr with rfl|hr
  ·rfl
  ·cases hr
theorem BS {P:Program} {ops:Array Oper} {rest:List Oper} {o:Oper} {a:Act} {Q:Exit→Act→World→Prop} (o9:o.guard=none) (s x:Operand) (t:TypeId)
 (ho:o.op=.call {callee:=.builtin .append,args:=#[s,x],argTypes:=#[t,t]})
 (base:Nat) (e:TypeId) (i:TypeInfo) (z:Value) (ht:P.underlying t=some (.slice e)) (hi:P.info? e=some i) (hz:i.zero=some z) (eG:i.size=2) (qq:i.bytes=32) (We:z.cells.size=2)
 (v:Value) (n:Nat) (xs:List (List UInt8 × List UInt8)) (hs:a.eval s=v) (aH:w.ownsRow base e 2 v n (eE xs))
 (p:Option Addr) (m c:Nat) (rs:List (List UInt8 × List UInt8)) (hx:a.eval x=.slice p m c) (hb:cM w p m rs) (gA:(n+m)*32≤140737488355328) (dh:base≤w.heap.size)
 (h:∀v' w',w'.ownsRow base e 2 v' (n+m) (eE (xs++rs))→w.grownBy w' v.ownBlock→wpList P ops Q rest (a.put o.dst v') w'):wpList P ops Q (o::rest) a w:=by
 have hl:=hb.1;rcases p with _|ad
 ·have hm:m=0:=by
   rcases Nat.eq_zero_or_pos m with h0|h0
   ·exact h0
   ·obtain⟨_,_,he,_⟩:=hb.2 h0
    cases he
  subst hm;obtain rfl:rs=[]:=List.eq_nil_of_length_eq_zero hl
  have B:(Builtin.append_ #[t,t] o.type #[v,.slice none 0 c]).run P w=.ok v w:=by
   rcases aH.2 with⟨rfl,rfl⟩|⟨g,cap,cur,rfl,_,_,Bi,_⟩
   ·simp[Builtin.append_,run_underlying ht,sizeOf,typeInfo,hi,Builtin.lenOf,Builtin.firstCells]
   ·simp[Builtin.append_,run_underlying ht,sizeOf,typeInfo,hi,Builtin.lenOf,Builtin.firstCells,Bi,storeCells]
  refine wpList_plain o9 fun K E=>?_
  unfold Oper.wp;simp[execOp,ho,resolve,invoke,builtin,hs,hx,B,Result.andThen];exact E _ _ (h v w (by simpa using aH) (World.grownBy.refl w _))
 ·refine wpList_append_own w o9 s x t ho base e i z 2 32 ht hi hz eG qq We (by decide) v n (eE xs) hs aH ad m c (eE rs) hx (by rw[ql,hl];omega) ?_ (KA rs) (by unfold maxLen;omega) gA dh ?_
  ·intro j u A
   have G:j<2*m:=by
    have:=(List.getElem?_eq_some_iff.1 A).1;rw[ql,hl]at this;exact this
   obtain⟨b,off,he,_,hc⟩:=hb.2 (by omega)
   cases he
   obtain⟨c0,c1⟩:=hc (j / 2) (by omega);obtain⟨g0,g1⟩:=yw rs (j / 2) (by omega);rw[WideShapes.add_plain];rcases Nat.mod_two_eq_zero_or_one j with Cs|Cs
   ·have e:j=2*(j / 2):=by omega
    rw[e]at A;rw[g0]at A
    cases A
    rw[show off+j=off+2*(j / 2) by omega];exact c0
   ·have e:j=2*(j / 2)+1:=by omega
    rw[e]at A;rw[g1]at A
    cases A
    rw[show off+j=off+2*(j / 2)+1 by omega];exact c1
  ·intro v' w' h1 D _
   rw[←Kz]at h1;exact h v' w' h1 D
end Rec
namespace Head
open Hp Go.Proofs.YtdhibldkldlfpaaGreatDoor.Mp
variable {R:Nat} {todo:Nat→Bool} {a b:Nat→List UInt8} {f:Nat→Option Value}
theorem j7 {bs:List UInt8} (h:ic w B R f todo) (hr:dE w g bs):g≠B∧g≠R:=by
 obtain⟨es,clock,since,seen,c0,D,hs,h1,E,A,_⟩:=h;unfold dE at hr;refine⟨fun e=>?_,fun e=>?_⟩
 ·rw[e,D]at hr;cases hr
 ·rw[e,A]at hr;cases hr
theorem IH (h:ic w B R f todo) (e:B=R):False:=by
 obtain⟨es,clock,since,seen,c0,D,hs,h1,E,A,_⟩:=h;rw[←e,D]at A
 cases A
def kf (todo:Nat→Bool) (a b:Nat→List UInt8):Nat→List UInt8:=fun i=>if todo i=true then a i else b i
theorem CY (ha:Fits a) (hb:Fits b):Fits (kf todo a b):=fun i=>by
 unfold kf;split
 ·exact ha i
 ·exact hb i
theorem CX (ha:Fits a) (hb:Fits b) (h:∀i,i<11→todo i=false):kf todo a b=b:=
 vg (CY ha hb) hb fun i hi=>by unfold kf;rw[if_neg (by simp[h i hi])]
theorem wu (j:Nat):pR (kf todo a b) j (b j)=kf (fun z=>todo z&&z != j) a b:=by
 funext i
 by_cases hi:i=j
 ·subst hi
  rw[nY,kf,if_neg (by simp)]
 ·rw[jW _ _ hi,kf,kf]
  have:(i != j)=true:=by simpa using hi
  simp[this]
theorem yZ (r:Nat→Nat):∀j v,jy r j=some v→v=dw r j:=fun j v h=>by
 unfold jy at h;split at h
 ·exact(Option.some.inj h).symm
 ·cases h
theorem Df {r:Nat→Nat} (h:jy r j=some v):j<11:=by
 unfold jy at h;split at h
 ·assumption
 ·cases h
theorem mi:(Tryz.prog.info? 5).map (·.size)=some 1:=by kernel_rfl
theorem gu {old cs:List UInt8} (h:cs.length=old.length):cd old cs=cs:=by
 simp[cd,List.drop_eq_nil_of_le (show old.length≤cs.length by omega)]
theorem iF (lo B:Nat) (r:Nat→Nat) (own:Nat→List UInt8) (i:Nat) (s:ByteArray) (w:World) (hi:i<11) (hP:bD w lo B r own):
 Calls Tryz.prog 159 #[.map (some B),.int .i64 (i:Int),.string s] w fun e w'=>e=.returned (.tuple #[])∧bD w' lo B r (pR own i (cd (own i) (s.data.toList.take (aj i))))∧Kept (ay (r i)) w w'∧w'.heap.size=w.heap.size:=by
 have H:=iv
 have I:(Instr.lookup 166 (.map (some B)) (.int .i64 (i:Int)) false).run Tryz.prog w=.ok (.agg #[.int .i64 (fF i),.slice (some ⟨r i,0,none⟩) (aj i) (aj i)]) w:=
  hP.map.look (P:=Tryz.prog) Tryz.underlying166 Tryz.underlying170 (x:=i) (v:=dw r i) (by unfold jy;rw[if_pos hi])
 have A:=hP.fit i;have D:=Qh hP;obtain⟨cs,hcs⟩:∃cs,cs=s.data.toList.take (aj i):=⟨_,rfl⟩
 have E:cs.length≤aj i:=by rw[hcs,Qg];omega
 have HC:=Qh hcs;rw[←hcs];clear hP hcs
 go_enter Tryz.func159,Tryz.ntmps159
 go_wp2_with (first|(refine jK rfl _ _ 26 9 rfl 5 Tryz.underlying26 mi (some ⟨r i,0,none⟩) (aj i) (aj i) s rfl rfl (r i) 0 (own i) (D.out.row i hi) cs HC.out (fun _=>rfl) (by rw[Nat.zero_add,A];exact E) ?_;intro J G hk hs)|go_in)
 refine bodyPost_end (results_none rfl _ _ _) rfl ?_;refine⟨rfl,D.out.wrote hi hk (by rw[nL (by rw[A];exact E)];exact A) ?_,hk,hs⟩;rw[←nS];exact G.out
theorem PK (p:Option Addr) (c:Nat) (bs:List UInt8) (w:World) (hn:bs.length=512) (hc:512≤c) (hm:c≤maxLen) (h:cK w p 512 bs):
 Calls Tryz.prog 101 #[.slice p 512 c] w fun e w'=>∃B r,e=.returned (.map (some B))∧bD w' w.heap.size B r (dO bs)∧Kept ai w w':=by
 unfold maxLen at hm;obtain⟨b,o,rfl,kX,_⟩:=h.cell (k:=0) (by omega);have H:=Qh h;have V:=Qh hn;clear h hn
 go_enter Tryz.func101,Tryz.ntmps101
 go_wp2_with fail
 refine(yn w).mono ?_;rintro e w1 ⟨B,r,rfl,A,hk⟩;have y:=Qh A;have u:=Qh hk;clear A hk;obtain⟨R,f⟩:∃R,R=w1.heap.size:=⟨_,rfl⟩
 go_wp2_with (first|(at_range;refine iT rfl _ rfl Tryz.underlying166 B y.out.map (fun _=>true) (fun _ _ _=>rfl) rfl R f ?_;intro w2 HI Y yJ)|go_in)
 have tE:=Qh (y.out.du Y.out);have gU:=Qh (u.out.trans Y.out);have Be:Hid (w.heap.size≤R):=Qh (by rw[f];exact u.out.size);clear Y yJ f
 try go_frame
 go_loopw [9] (fun _ wr=>∃todo,Hid (ic wr B R (jy r) todo)∧Hid (bD wr w.heap.size B r (kf todo ey (dO bs)))∧Hid (Kept ai w wr)) (fun _ wr=>wr.rangeLeft B R)
 case atStart=>exact⟨fun _=>true,HI,by
  have e:kf (fun _=>true) ey (dO bs)=ey:=by funext i;exact if_pos rfl
  rw[e];exact tE,gU⟩
 case round=>
  obtain⟨todo,M,A,hK⟩:=hrel
  go_wp2_with (at_next;refine jL rfl _ rfl B R todo (dw r) (yZ r) rfl M.out ?_ ?_)
  ·intro hd
   have D:∀i,i<11→todo i=false:=fun i hi=>hd i (dw r i) (by unfold jy;rw[if_pos hi])
   have HD:=Qh (CX (todo:=todo) ko (GB V.out) D);clear hd D;go_wp2;go_ret;refine⟨B,r,rfl,?_,hK.out⟩;rw[←HD.out];exact A.out
  ·intro j w3 v E Sg ye uD re xJ RY
   have E:=Df E;have VG:(Instr.entry (.pointer (some ⟨R,0,none⟩))).run Tryz.prog w3=.ok (.tuple #[.int .i64 (j:Int),.agg #[.int .i64 (fF j),.slice (some ⟨r j,0,none⟩) (aj j) (aj j)]]) w3:=RY;have hw:=lO E;have jP:=nf E;have G:=Qh E;clear RY;go_wp2_with fail;obtain⟨w4,O⟩:∃w4,w4=w3.alloc (.cells #[.int .i64 (fF j),.slice (some ⟨r j,0,none⟩) (aj j) (aj j)] 169):=⟨_,rfl⟩
   have m:Kept ai w3 w4:=by rw[O];exact(Kept.refl _ _).alloc _
   have L:w4.heap[wr.heap.size]? =some (.cells #[.int .i64 (fF j),.slice (some ⟨r j,0,none⟩) (aj j) (aj j)] 169 (0,0)):=by rw[O,←xJ];exact heap_alloc_new _ _
   rw[←O];have Oa:w4.drew.cell? ⟨wr.heap.size,0,none⟩=some (.int .i64 (fF j)):=bJ (w:=w4) L 0;have gw:w4.drew.cell? ⟨wr.heap.size,1,none⟩=some (.slice (some ⟨r j,0,none⟩) (aj j) (aj j)):=bJ (w:=w4) L 1;have W:Kept (ay R) wr w4.drew:=re.out.trans (m.drew.dY _);have gz:=j7 M.out (A.out.row j E);have J:=A.out.kept W (fun e=>IH M.out e) (fun i hi e=>(j7 M.out (A.out.row i hi)).2 e)
   have X:=hK.out.then W (fun i hi=>Or.inl (by
    have h1:i=R:=hi;rw[h1]
    exact Be.out))
   have U:=ye.out.kept (m.drew) id id;have T:(aA bs j).length=aj j:=kV V.out E;have bC:=J.row j E
   have nt:cK w4.drew (some ⟨b,o+fF j,none⟩) (aA bs j).length (aA bs j):=by
    have h1:=(H.out.below (X.below (Qk _) (fun k hk=>hk.elim))).drop (k:=fF j) (c:=c) (by omega) (by omega) V.out;rw[if_neg (by omega)]at h1;have d:=h1.take (k:=aj j) (by omega);rw[T]
    simpa [WideShapes.add_plain,aA]using d
   have T9:((kf todo ey (dO bs)) j).length=aj j:=J.fit j;have t:=Qh J;have yf:=Qh X;have Hi:=Qh U;have N:=Qh gz;have tF:=Qh bC;have Eg:=Qh nt;have I:=Qh T;have Yg:=Qh T9;have Uu:=Qh L;have Bo:Hid (w4.drew.rangeLeft B R<wr.rangeLeft B R):=Qh (by rw[U.2];exact uD.out);clear W gz J X U T bC nt T9 L m O VG
   go_region_held_law (fun w'=>w'.cell? ⟨wr.heap.size,0,none⟩=some (.int .i64 (fF j))∧w'.cell? ⟨wr.heap.size,1,none⟩=some (.slice (some ⟨r j,0,none⟩) (aj j) (aj j))) (first|exact⟨Oa,gw⟩|exact g)
    (first
     |(refine xc rfl _ _ 26 26 rfl 5 Tryz.underlying26 mi (some ⟨r j,0,none⟩) (some ⟨b,o+fF j,none⟩) (aj j) (aj j) (512 - fF j) (c - fF j) rfl rfl (r j) 0 (kf todo ey (dO bs) j) tF.out (aA bs j)
        (by rw[I.out];exact(Nat.min_eq_right (by omega)).symm) (fun _=>rfl) Eg.out (by rw[I.out,Yg.out];omega) ?_
       intro q Aj Z oY;have Oo:=Qh Z
       have g:q.cell? ⟨wr.heap.size,0,none⟩=some (.int .i64 (fF j))∧q.cell? ⟨wr.heap.size,1,none⟩=some (.slice (some ⟨r j,0,none⟩) (aj j) (aj j)):=by
        have h5:q.heap[wr.heap.size]? =_:=Z.some_ (show w4.drew.heap[wr.heap.size]? =_ from Uu.out) (fun e=>by
         have h1:wr.heap.size=r j:=e;have d:=(A.out.row j G.out).lt
         omega)
        exact⟨bJ h5 0,bJ h5 1⟩
       clear Z))
   simp only[List.getElem_toArray,List.getElem_cons_succ,List.getElem_cons_zero]
   go_frame
   go_wp2;go_roundw
   case rel=>
    have hk:=Oo.out;have D5:=t.out.lo.2 j G.out
    refine⟨fun z=>todo z&&z != j,Qh (Hi.out.1.kept hk (fun e=>N.out.1 (Eq.symm e)) (fun e=>N.out.2 (Eq.symm e))).1,Qh ?_,Qh (yf.out.then hk (fun i hi=>Or.inl (by
     have h1:i=r j:=hi;rw[h1]
     exact D5)))⟩
    have hw:=t.out.wrote G.out hk (l:=aA bs j) I.out (by
     have h1:=Aj.out
     rwa [nS,gu (by rw[I.out,Yg.out])]at h1)
    have e:=wu (todo:=todo) (a:=ey) (b:=dO bs) j;rw[show dO bs j=aA bs j by unfold dO;rw[if_pos G.out]]at e;rw[e]at hw;exact hw
   case measure=>
    have hk:=Oo.out;have h1:=(Hi.out.1.kept hk (fun e=>N.out.1 (Eq.symm e)) (fun e=>N.out.2 (Eq.symm e))).2;have d:=Bo.out;omega
theorem yo (lo B:Nat) (r:Nat→Nat) (own:Nat→List UInt8) (w:World) (QF:bD w lo B r own):
 Calls Tryz.prog 161 #[.map (some B)] w fun e w'=>∃g,e=.returned (.slice (some ⟨g,0,none⟩) 512 512)∧dE w' g (ba own)∧w.heap.size≤g∧Kept ai w w':=by
 obtain⟨i0,y,eo,dH,dM⟩:=info_parts iy;have gT:=Qh y;have jr:=Qh eo;have ib:=Qh dH;have js:=Qh dM;have M5:=Qh QF;have q:Hid (B<w.heap.size∧∀i,i<11→r i<w.heap.size):=Qh ⟨QF.map.lt,fun i hi=>(QF.row i hi).lt⟩;clear y eo dH dM QF
 go_enter Tryz.func161,Tryz.ntmps161
 go_wp2_with (at_make;refine wpList_make_full _ rfl _ _ 26 rfl w.heap.size 5 i0 (.int .u8 0) 1 Tryz.underlying26 gT.out jr.out ib.out .i64 .i64 _ _ 512 rfl rfl rfl rfl (by rw[js.out];omega) (by decide) (Qk _) ?_)
 intro w1 aH aS;have G:=DC aH;rw[←sF]at G;have Y:Kept ai w w1:=(Kept.refl ai w).grown aS (fun k hk=>by cases hk);obtain⟨g,hg⟩:∃g,g=w.heap.size:=⟨_,rfl⟩
 rw[←hg]at G⊢;have o:=Qh (M5.out.du Y);have Yh:=Qh G;have fE:=Qh Y;have I:Hid (w.heap.size≤g):=Qh (by omega);clear aH aS G Y;obtain⟨R,d⟩:∃R,R=w1.heap.size:=⟨_,rfl⟩
 go_wp2_with (first|(at_range;refine iT rfl _ rfl Tryz.underlying166 B o.out.map (fun _=>true) (fun _ _ _=>rfl) rfl R d ?_;intro w2 HI M yJ)|go_in)
 have gU:=Qh (fE.out.trans M.out);have tE:=Qh (o.out.du M.out);have Yi:=Qh (Yh.out.kept M.out id);have Be:Hid (w.heap.size≤R):=Qh (by rw[d];exact fE.out.size);clear M yJ d hg
 try go_frame
 go_loopw [9] (fun _ wr=>∃todo,Hid (ic wr B R (jy r) todo)∧Hid (bD wr lo B r own)∧Hid (dE wr g (ba (kf todo ey own)))∧Hid (Kept ai w wr)) (fun _ wr=>wr.rangeLeft B R)
 case atStart=>exact⟨fun _=>true,HI,tE,by
  have e:kf (fun _=>true) ey own=ey:=by funext i;exact if_pos rfl
  rw[e];exact Yi,gU⟩
 case round=>
  obtain⟨todo,O,E,N,hK⟩:=hrel
  go_wp2_with (at_next;refine jL rfl _ rfl B R todo (dw r) (yZ r) rfl O.out ?_ ?_)
  ·intro hd
   have A:∀i,i<11→todo i=false:=fun i hi=>hd i (dw r i) (by unfold jy;rw[if_pos hi])
   have HD:=Qh (CX (todo:=todo) ko E.out.fit A);clear hd A;go_wp2;go_ret;refine⟨g,rfl,?_,I.out,hK.out⟩;rw[←HD.out];exact N.out
  ·intro j w3 v D Sg ye uD re xJ RY
   have D:=Df D;have VG:(Instr.entry (.pointer (some ⟨R,0,none⟩))).run Tryz.prog w3=.ok (.tuple #[.int .i64 (j:Int),.agg #[.int .i64 (fF j),.slice (some ⟨r j,0,none⟩) (aj j) (aj j)]]) w3:=RY;have hw:=lO D;have jP:=nf D;have HJ:=Qh D;clear RY;go_wp2_with fail;obtain⟨w4,U⟩:∃w4,w4=w3.alloc (.cells #[.int .i64 (fF j),.slice (some ⟨r j,0,none⟩) (aj j) (aj j)] 169):=⟨_,rfl⟩
   have l:Kept ai w3 w4:=by rw[U];exact(Kept.refl _ _).alloc _
   have J:w4.heap[wr.heap.size]? =some (.cells #[.int .i64 (fF j),.slice (some ⟨r j,0,none⟩) (aj j) (aj j)] 169 (0,0)):=by rw[U,←xJ];exact heap_alloc_new _ _
   rw[←U];have Oa:w4.drew.cell? ⟨wr.heap.size,0,none⟩=some (.int .i64 (fF j)):=bJ (w:=w4) J 0;have gw:w4.drew.cell? ⟨wr.heap.size,1,none⟩=some (.slice (some ⟨r j,0,none⟩) (aj j) (aj j)):=bJ (w:=w4) J 1;have L:Kept (ay R) wr w4.drew:=re.out.trans (l.drew.dY _);have b:=j7 O.out N.out;have X:=E.out.kept L (fun e=>IH O.out e) (fun i hi e=>(j7 O.out (E.out.row i hi)).2 e)
   have Xm:=hK.out.then L (fun i hi=>Or.inl (by
    have h1:i=R:=hi;rw[h1]
    exact Be.out))
   have W:=ye.out.kept (l.drew) id id;have V:(own j).length=aj j:=E.out.fit j;have bC:dE w4.drew g (ba (kf todo ey own)):=N.out.kept L (fun e=>b.2 e)
   have nt:cK w4.drew (some ⟨r j,0,none⟩) (own j).length (own j):=by
    rw[V];exact X.gC D
   have Bd:=Qh X;have yf:=Qh Xm;have p:=Qh W;have T:=Qh b;have tF:=Qh bC;have Eg:=Qh nt;have H:=Qh V;have Uu:=Qh J;have t:Hid (Fits (kf todo ey own)):=Qh (CY ko E.out.fit);have Bo:Hid (w4.drew.rangeLeft B R<wr.rangeLeft B R):=Qh (by rw[W.2];exact uD.out);clear L b X Xm W V bC nt J l U VG
   go_region_held_law (fun w'=>w'.cell? ⟨wr.heap.size,0,none⟩=some (.int .i64 (fF j))∧w'.cell? ⟨wr.heap.size,1,none⟩=some (.slice (some ⟨r j,0,none⟩) (aj j) (aj j))) (first|exact⟨Oa,gw⟩|exact f)
    (first
     |(refine xc rfl _ _ 26 26 rfl 5 Tryz.underlying26 mi (some ⟨g,fF j,none⟩) (some ⟨r j,0,none⟩) (512 - fF j) (512 - fF j) (aj j) (aj j) rfl rfl g (fF j) (ba (kf todo ey own)) tF.out (own j)
        (by rw[H.out];exact(Nat.min_eq_left (by omega)).symm) (fun _=>rfl) Eg.out (by rw[H.out,aI];omega) ?_
       intro m Aj Z oY;have u:=Qh Z
       have f:m.cell? ⟨wr.heap.size,0,none⟩=some (.int .i64 (fF j))∧m.cell? ⟨wr.heap.size,1,none⟩=some (.slice (some ⟨r j,0,none⟩) (aj j) (aj j)):=by
        have h5:m.heap[wr.heap.size]? =_:=Z.some_ (show w4.drew.heap[wr.heap.size]? =_ from Uu.out) (fun e=>by
         have h1:wr.heap.size=g:=e;have c:=N.out.lt
         omega)
        exact⟨bJ h5 0,bJ h5 1⟩
       clear Z))
   simp only[List.getElem_toArray,List.getElem_cons_succ,List.getElem_cons_zero]
   go_frame
   go_wp2;go_roundw
   case rel=>
    have hk:=u.out
    refine⟨fun z=>todo z&&z != j,Qh (p.out.1.kept hk (fun e=>T.out.1 (Eq.symm e)) (fun e=>T.out.2 (Eq.symm e))).1,Qh (Bd.out.kept hk (fun e=>?_) (fun i hi e=>?_)),Qh ?_,Qh (yf.out.then hk (fun i hi=>Or.inl (by
     have h1:i=g:=hi;rw[h1]
     exact I.out)))⟩
    ·have h1:B=g:=e
     have c:=q.out.1;have h3:=I.out;omega
    ·have h1:r i=g:=e
     have c:=q.out.2 i hi;have h3:=I.out;omega
    ·have h1:=Aj.out
     rw[iR t.out HJ.out (by rw[H.out];exact Qk _),gu (by rw[H.out,t.out j]),wu]at h1;exact h1
   case measure=>
    have hk:=u.out;have h1:=(p.out.1.kept hk (fun e=>T.out.1 (Eq.symm e)) (fun e=>T.out.2 (Eq.symm e))).2;have c:=Bo.out;omega
end Head
namespace Head
open Hp Go.Proofs.YtdhibldkldlfpaaGreatDoor.Mp Fp Go.Proofs.YtdhibldkldlfpaaGreatDoor.Field
variable {own:Nat→List UInt8}
def mr (nZ:Nat→Int):Nat→Option Value:=fun i=>if 1≤i∧i≤5 then some (.int .i64 (nZ i))else none
theorem Da (nZ:Nat→Int):∀j v,mr nZ j=some v→v=.int .i64 (nZ j):=fun j v h=>by
 unfold mr at h;split at h
 ·exact(Option.some.inj h).symm
 ·cases h
theorem IX {nZ:Nat→Int} (h:mr nZ j=some v):1≤j∧j≤5:=by
 unfold mr at h;split at h
 ·assumption
 ·cases h
theorem qL (nZ:Nat→Int) (h1:1≤j) (h2:j≤5):mr nZ j=some (.int .i64 (nZ j)):=by
 unfold mr;rw[if_pos ⟨h1,h2⟩]
theorem ph (n l:ByteArray) (k m u g t z:Int) (fL:Bool) (nZ:Nat→Int) (h1:nZ 1=m) (h2:nZ 2=u) (h3:nZ 3=g) (h4:nZ 4=z) (h5:nZ 5=t) (w:World):
 Calls Tryz.prog 138 #[.agg #[.string n,.string l,.int .u8 k,.int .i64 m,.int .i64 u,.int .i64 g,.int .i64 t,.int .i64 z,.bool fL]] w fun e w'=>∃N,e=.returned (.map (some N))∧kr w' N (mr nZ)∧w.heap.size≤N∧Kept ai w w':=by
 obtain⟨O,hO⟩:∃O,O=Obj.cells #[.string n,.string l,.int .u8 k,.int .i64 m,.int .i64 u,.int .i64 g,.int .i64 t,.int .i64 z,.bool fL] 66:=⟨_,rfl⟩
 have L:=rQ (w.alloc O);rw[World.size_alloc,hO]at L;have f:=Qh L;have D:((w.alloc O).alloc (.map #[] 0)).heap[w.heap.size]? =some O:=((Kept.refl ai (w.alloc O)).alloc (.map #[] 0)).some_ (heap_alloc_new w O) id;have I:Kept ai w ((w.alloc O).alloc (.map #[] 0)):=((Kept.refl ai w).alloc O).alloc _;rw[hO]at D I;have d:=Qh D;have p:=Qh I;clear L D I hO
 have off:¬ay (w.heap.size+1) w.heap.size:=fun e=>by
  have:w.heap.size=w.heap.size+1:=e;omega
 have A:=Qh off
 have lo:∀i,ay (w.heap.size+1) i→w.heap.size≤i∨ai i:=fun i hi=>Or.inl (by
  have:i=w.heap.size+1:=hi
  omega)
 have B:=Qh lo;clear off lo;have mm:=@run_makeMap Tryz.prog
 go_enter Tryz.func138,Tryz.ntmps138
 go_wp2_with (refine eM rfl _ _ _ (Or.inr rfl) Tryz.underlying171 Tryz.underlying170 (w.heap.size+1) f.out rfl 1 rfl rfl (.int .i64 m) rfl ?_)
 intro w1 o H qu;have R:=Qh (H.out.some_ d.out A.out);have X:=Qh (p.out.then H.out B.out);have c4:=bJ R.out 4;clear H qu
 go_wp2_with (refine eM rfl _ _ _ (Or.inr rfl) Tryz.underlying171 Tryz.underlying170 (w.heap.size+1) o.out rfl 2 rfl rfl (.int .i64 u) rfl ?_)
 intro w2 Z E yJ;have M:=Qh (E.out.some_ R.out A.out);have b:=Qh (X.out.then E.out B.out);have c5:=bJ M.out 5;clear E yJ c4
 go_wp2_with (refine eM rfl _ _ _ (Or.inr rfl) Tryz.underlying171 Tryz.underlying170 (w.heap.size+1) Z.out rfl 3 rfl rfl (.int .i64 g) rfl ?_)
 intro w3 Y G xJ;have U:=Qh (G.out.some_ M.out A.out);have re:=Qh (b.out.then G.out B.out);have c6:=bJ U.out 6;clear G xJ c5
 go_wp2_with (refine eM rfl _ _ _ (Or.inr rfl) Tryz.underlying171 Tryz.underlying170 (w.heap.size+1) Y.out rfl 5 rfl rfl (.int .i64 t) rfl ?_)
 intro w4 r J W;have q:=Qh (J.out.some_ U.out A.out);have yf:=Qh (re.out.then J.out B.out);have c7:=bJ q.out 7;clear J W c6
 go_wp2_with (refine eM rfl _ _ _ (Or.inr rfl) Tryz.underlying171 Tryz.underlying170 (w.heap.size+1) r.out rfl 4 rfl rfl (.int .i64 z) rfl ?_)
 intro w5 c T oY;have V:=Qh (yf.out.then T.out B.out);clear T oY c7;go_wp2;go_ret;refine⟨_,rfl,?_,by omega,V.out⟩
 have e:(mr nZ)=fun y=>if y=4 then some (Value.int .i64 z)else if y=5 then some (Value.int .i64 t)else if y=3 then some (Value.int .i64 g)else if y=2 then some (Value.int .i64 u)else if y=1 then some (Value.int .i64 m)else none:=by
  funext y
  unfold mr
  match y with
  |0=>rfl
  |1=>rw[h1];rfl
  |2=>rw[h2];rfl
  |3=>rw[h3];rfl
  |4=>rw[h4];rfl
  |5=>rw[h5];rfl
  |y+6=>rw[if_neg (by omega),if_neg (by omega),if_neg (by omega),if_neg (by omega),if_neg (by omega),if_neg (by omega)]
 rw[e];exact c.out
def qM (own:Nat→List UInt8):Bool:=(List.range 5).all fun i=>Pw (bM (own (i+1)))
theorem oI:qM own=true↔∀i,1≤i→i≤5→Pw (bM (own i))=true:=by
 unfold qM;rw[List.all_eq_true];constructor
 ·intro h i h1 A
  have:=h (i - 1) (List.mem_range.2 (by omega))
  rwa [show i - 1+1=i by omega]at this
 ·intro h i hi
  have:=List.mem_range.1 hi;exact h (i+1) (by omega) (by omega)
def Nb (w:World) (own:Nat→List UInt8) (e:Ending) (w':World):Prop:=
 Kept ai w w'∧((qM own=true∧∃Q,e=.returned (.tuple #[.map (some Q),.bool true])∧kr w' Q (mr fun i=>qZ (bM (own i))))∨(qM own=false∧e=.returned (.tuple #[.map none,.bool false])))
theorem tf (lo B:Nat) (r:Nat→Nat) (own:Nat→List UInt8) (w:World) (QF:bD w lo B r own):
 Calls Tryz.prog 104 #[.map (some B)] w (Nb w own):=by
 have fl:=iv;have f:=Qh QF;have tN:=rQ w;have jz:=Qh tN;have lj:=Qh ((Kept.refl ai w).alloc (.map #[] 0));clear QF tN;have mm:=@run_makeMap Tryz.prog
 go_enter Tryz.func104,Tryz.ntmps104
 go_wp2_with fail
 refine(ph ⟨#[]⟩ ⟨#[]⟩ 0 0 0 0 0 0 false (fun _=>0) rfl rfl rfl rfl rfl _).mono ?_;rintro e w1 ⟨N,rfl,hN,I,V⟩;have HN:=Qh hN;have X3:Hid (N≠w.heap.size):=Qh (by rw[World.size_alloc]at I;omega);have H:=Qh (jz.out.kept V id);have Bc:=Qh ((f.out.du lj.out).du V);have fE:=Qh (lj.out.trans V);clear hN I V;obtain⟨R,hR⟩:∃R,R=w1.heap.size:=⟨_,rfl⟩
 go_wp2_with (first|(at_range;refine iT rfl _ rfl Tryz.underlying171 N HN.out (fun _=>true) (fun _ _ _=>rfl) rfl R hR ?_;intro w2 HI U yJ)|go_in)
 have gU:=Qh (fE.out.trans U.out);have tE:=Qh (Bc.out.du U.out);have Hk:=Qh (H.out.kept U.out id)
 have M:Hid (w.heap.size<R):=Qh (by
  have:=H.out.lt
  omega)
 clear U yJ hR
 try go_frame
 go_loopw [12] (fun _ wr=>∃todo,Hid (ic wr N R (mr fun _=>0) todo)∧Hid (bD wr lo B r own)∧Hid (kr wr w.heap.size (fun i=>if todo i=true then none else mr (fun i=>qZ (bM (own i))) i))∧Hid (Kept ai w wr)∧Hid (∀i,1≤i→i≤5→todo i=false→Pw (bM (own i))=true)) (fun _ wr=>wr.rangeLeft N R)
 case atStart=>exact⟨fun _=>true,HI,tE,by
  have e:(fun i=>if true=true then none else mr (fun i=>qZ (bM (own i))) i)=fun _=>(none:Option Value):=by funext i;rfl
  rw[e];exact Hk,gU,Qh (fun i _ _ h=>by cases h)⟩
 case round=>
  obtain⟨todo,m,o,hQ,hK,hD⟩:=hrel
  go_wp2_with (at_next;refine jL rfl _ rfl N R todo (fun _=>.int .i64 0) (Da _) rfl m.out ?_ ?_)
  ·intro hd
   have D:∀i,1≤i→i≤5→todo i=false:=fun i h1 A=>hd i (.int .i64 0) (qL _ h1 A)
   have O:Hid (qM own=true∧(fun i=>if todo i=true then none else mr (fun i=>qZ (bM (own i))) i)=mr fun i=>qZ (bM (own i))):=Qh ⟨oI.2 fun i h1 A=>hD.out i h1 A (D i h1 A),by
    funext i
    split
    ·rename_i E
     unfold mr;rw[if_neg];rintro⟨h1,A⟩;rw[D i h1 A]at E
     cases E
    ·rfl⟩
   clear hd D;go_wp2;go_ret2;refine⟨hK.out,Or.inl ⟨O.out.1,_,rfl,?_⟩⟩;have h1:=hQ.out;rw[O.out.2]at h1;exact h1
  ·intro j w3 v p Sg ye uD u xJ RY
   have p:=IX p;obtain⟨Bg,q⟩:=p;have X:j<11:=by omega
   have g:=o.out.kept u.out (fun e=>by
    have h1:=o.out.map;have A:=m.out;obtain⟨es,clock,hb,_⟩:=h1;obtain⟨_,_,_,_,_,_,_,_,_,hr,_⟩:=A;have e:B=R:=e;rw[←e,hb]at hr
    cases hr) (fun i hi e=>(j7 m.out (o.out.row i hi)).2 e)
   have J:=hQ.out.kept u.out (fun e=>by
    have e:w.heap.size=R:=e;have:=M.out
    omega)
   have YB:=hK.out.then u.out (fun i hi=>Or.inl (by
    have h1:i=R:=hi;have:=M.out
    omega))
   have lk:(Instr.lookup 166 (.map (some B)) (.int .i64 (j:Int)) false).run Tryz.prog w3=.ok (.agg #[.int .i64 (fF j),.slice (some ⟨r j,0,none⟩) (aj j) (aj j)]) w3:=
    g.map.look (P:=Tryz.prog) Tryz.underlying166 Tryz.underlying170 (x:=j) (v:=dw r j) (by unfold jy;rw[if_pos X])
   have hw:=lO X;have HJ:=Qh X;have t:=Qh g;have Tz:=Qh J;have Eb:=Qh YB;have HW:=Qh hw;have d:=Qh Sg;have T:Hid (1≤j∧j≤5):=Qh ⟨Bg,q⟩;clear g J YB hw Sg;go_wp2_with fail;refine(yY _ (aj j) (aj j) (own j) w3 (t.out.fit j) (Qk _) (by have:=HW.out;unfold maxLen;omega) (t.out.gC HJ.out)).mono ?_;rintro e w4 ⟨rfl,gY⟩;have L:Kept ai w3 w4:=Kept.aO gY _;have Bd:=Qh (t.out.du L);have b:=Qh (Tz.out.kept L id);have yf:=Qh (Eb.out.trans L);have Y:=ye.out.kept L id id;have Hi:=Qh Y.1;have Z:Hid (w4.rangeLeft N R<wr.rangeLeft N R):=Qh (by rw[Y.2];exact uD.out);clear gY L Y lk
   by_cases G:Pw (bM (own j))=true
   ·have yg:=Qh G
    rw[G];clear G
    go_wp2_with (first|(at_mapUpdate;refine eM rfl _ _ _ (Or.inl rfl) Tryz.underlying171 Tryz.underlying170 w.heap.size b.out rfl j rfl (by rw[d.out];rfl) (.int .i64 (qZ (bM (own j)))) rfl ?_;intro w5 c W oY)|go_in)
    try go_frame
    try go_wp2
    go_roundw
    case rel=>
     have l:=Hi.out.kept W.out X3.out (fun e=>by
      have e:R=w.heap.size:=e;have:=M.out
      omega)
     refine⟨fun z=>todo z&&z != j,Qh l.1,Qh (Bd.out.kept W.out (fun e=>?_) (fun i hi e=>?_)),Qh ?_,Qh (yf.out.then W.out (fun i hi=>Or.inl (by
      have h1:i=w.heap.size:=hi
      omega))),Qh (fun i h1 A E=>?_)⟩
     ·have e:B=w.heap.size:=e
      have:=f.out.map.lt;omega
     ·have e:r i=w.heap.size:=e
      have:=(f.out.row i hi).lt;omega
     ·have h1:=c.out
      have e:(fun y=>if y=j then some (Value.int .i64 (qZ (bM (own j))))else if todo y=true then none else mr (fun i=>qZ (bM (own i))) y)=fun i=>if(todo i&&i != j)=true then none else mr (fun i=>qZ (bM (own i))) i:=by
       funext y
       by_cases hy:y=j
       ·subst hy
        rw[if_pos rfl,if_neg (by simp),qL _ T.out.1 T.out.2]
       ·have A:(y != j)=true:=by simpa using hy
        rw[if_neg hy,A,Bool.and_true]
      rw[e]at h1;exact h1
     ·by_cases ug:i=j
      ·rw[ug];exact yg.out
      ·have h3:(i != j)=true:=by simpa using ug
       have E:(todo i&&i != j)=false:=E;rw[h3,Bool.and_true]at E;exact hD.out i h1 A E
    case measure=>
     have l:=Hi.out.kept W.out X3.out (fun e=>by
      have e:R=w.heap.size:=e;have:=M.out
      omega)
     have h1:=Z.out;have A:=l.2;omega
   ·have Zx:Pw (bM (own j))=false:=by simpa using G
    have O:Hid (qM own=false):=Qh (by
     cases hc:qM own with
     |false=>rfl
     |true=>exact absurd (oI.1 hc j T.out.1 T.out.2) G)
    rw[Zx];clear G Zx;go_wp2;go_ret2;exact⟨yf.out,Or.inr ⟨O.out,rfl⟩⟩
def PV (r:Nat→Nat):Nat→Prop:=fun k=>∃i,i<11∧k=r i
def wE (h:aq) (own:Nat→List UInt8):Nat→List UInt8:=fun i=>if 1≤i∧i≤5 then xT h i else own i
def sy (w:World) (lo B:Nat) (r:Nat→Nat) (h:aq) (own:Nat→List UInt8) (e:Ending) (w':World):Prop:=
 Kept (PV r) w w'∧((eX h=true∧e=.returned (.bool true)∧bD w' lo B r (wE h own))∨(eX h=false∧e=.returned (.bool false)))
theorem wM (h:aq) (IF:∀i,(Lit.int .i64 (ia h i)).wf=true) (lo B:Nat) (r:Nat→Nat) (own:Nat→List UInt8) (w:World) (QF:bD w lo B r own) (hz:∀i,1≤i→i≤5→own i=List.replicate (aj i) 0):
 Calls Tryz.prog 158 #[.map (some B),.agg #[.string (str h.name),.string (str h.link),.int .u8 (h.kind.toNat:Int),.int .i64 h.mode,.int .i64 h.uid,.int .i64 h.gid,.int .i64 h.time,.int .i64 h.size,.bool h.fL]] w (sy w lo B r h own):=by
 have fl:=iv;have M5:=Qh QF;have HZ:=Qh hz;have Rt:=Qh IF;have lj:=Qh ((Kept.refl ai w).alloc (.cells #[.string (str h.name),.string (str h.link),.int .u8 (h.kind.toNat:Int),.int .i64 h.mode,.int .i64 h.uid,.int .i64 h.gid,.int .i64 h.time,.int .i64 h.size,.bool h.fL] 66));clear QF hz IF
 go_enter Tryz.func158,Tryz.ntmps158
 go_wp2_with fail
 refine(ph _ _ _ _ _ _ _ _ _ (ia h) rfl rfl rfl rfl rfl _).mono ?_;rintro e w1 ⟨N,rfl,hN,m,f⟩;have HN:=Qh hN;have Bc:=Qh ((M5.out.du lj.out).du f);have fE:=Qh (lj.out.trans f);clear hN m f;obtain⟨R,o⟩:∃R,R=w1.heap.size:=⟨_,rfl⟩
 go_wp2_with (first|(at_range;refine iT rfl _ rfl Tryz.underlying171 N HN.out (fun _=>true) (fun _ _ _=>rfl) rfl R o ?_;intro w2 HI c yJ)|go_in)
 have gU:=Qh ((fE.out.trans c.out).dY (PV r));have tE:=Qh (Bc.out.du c.out);have Be:Hid (w.heap.size≤R):=Qh (by rw[o];exact fE.out.size);clear c yJ o
 try go_frame
 go_loopw [12] (fun _ wr=>∃todo,Hid (ic wr N R (mr (ia h)) todo)∧Hid (bD wr lo B r (kf todo own (wE h own)))∧Hid (Kept (PV r) w wr)∧Hid (∀i,1≤i→i≤5→todo i=false→(dJ (ia h i) (aj i)).isSome=true)) (fun _ wr=>wr.rangeLeft N R)
 case atStart=>exact⟨fun _=>true,HI,by
  have e:kf (fun _=>true) own (wE h own)=own:=by funext i;exact if_pos rfl
  rw[e];exact tE,gU,Qh (fun i _ _ h=>by cases h)⟩
 case round=>
  obtain⟨todo,g,M,hK,hD⟩:=hrel
  go_wp2_with (at_next;refine jL rfl _ rfl N R todo (fun j=>.int .i64 (ia h j)) (Da _) rfl g.out ?_ ?_)
  ·intro hd
   have D:∀i,1≤i→i≤5→todo i=false:=fun i h1 A=>hd i _ (qL _ h1 A)
   have H:Hid (eX h=true∧kf todo own (wE h own)=wE h own):=Qh ⟨dn.2 fun i h1 A=>hD.out i h1 A (D i h1 A),by
    funext i
    unfold kf;split
    ·rename_i E
     unfold wE;rw[if_neg];rintro⟨h1,A⟩;rw[D i h1 A]at E
     cases E
    ·rfl⟩
   clear hd D;go_wp2;go_ret;refine⟨hK.out,Or.inl ⟨H.out.1,rfl,?_⟩⟩;have h1:=M.out;rw[H.out.2]at h1;exact h1
  ·intro j w3 v q Sg ye uD re xJ RY
   have q:=IX q;obtain⟨Bg,t⟩:=q;have G:j<11:=by omega
   have X:=M.out.kept re.out (fun e=>by
    have h1:=M.out.map;have A:=g.out;obtain⟨es,clock,hb,_⟩:=h1;obtain⟨_,_,_,_,_,_,_,_,_,hr,_⟩:=A;have e:B=R:=e;rw[←e,hb]at hr
    cases hr) (fun i hi e=>(j7 g.out (M.out.row i hi)).2 e)
   have YB:=hK.out.then re.out (fun i hi=>Or.inl (by
    have h1:i=R:=hi;have:=Be.out
    omega))
   have lk:(Instr.lookup 166 (.map (some B)) (.int .i64 (j:Int)) false).run Tryz.prog w3=.ok (.agg #[.int .i64 (fF j),.slice (some ⟨r j,0,none⟩) (aj j) (aj j)]) w3:=
    X.map.look (P:=Tryz.prog) Tryz.underlying166 Tryz.underlying170 (x:=j) (v:=dw r j) (by unfold jy;rw[if_pos G])
   have hw:=lO G;have HJ:=Qh G;have ku:=Qh X;have Eb:=Qh YB;have HW:=Qh hw;have HTJ:=Qh Sg;have Y:Hid (1≤j∧j≤5):=Qh ⟨Bg,t⟩;have I:=Qh (j7 (ye.out) (ku.out.row j G));clear X YB hw Sg;go_wp2_with fail
   refine(I5 (ia h j) (aj j) w3 (Rt.out j) (by
    have:=HW.out
    exact WalkArith.wf_i64 (by omega))).mono ?_
   rintro e w4 ⟨L,(⟨l,v4,hl,rfl,aH⟩|⟨hl,rfl⟩)⟩
   ·have hlen:=tr hl
    obtain⟨p4,c4,rfl,p,u,qo,_⟩:=I6 rfl hl aH;have O:Kept ai w3 w4:=Kept.aO L _;have Bd:=Qh (ku.out.du O);have y:=Qh (Eb.out.trans (O.dY _));have T:=ye.out.kept O id id;have Hi:=Qh T.1;have U:Hid (w4.rangeLeft N R<wr.rangeLeft N R):=Qh (by rw[T.2];exact uD.out);have iN:(bytesOf l).length=aj j:=by rw[bytesOf_length];omega
    have cs:(convert 26 9 (.slice p4 l.length c4)).run Tryz.prog w4=.ok (.string (str (bytesOf l))) w4:=cw qo (by rw[bytesOf_length]) _ _ _ Tryz.underlying26 Tryz.underlying5 Tryz.underlying9 c4;have HB:Hid (xT h j=bytesOf l):=Qh (oH hl);have Jn:=Qh iN;have V:Hid ((dJ (ia h j) (aj j)).isSome=true):=Qh (by rw[hl];rfl);clear hl aH hlen p u qo L O T lk iN;go_wp2_with fail;refine(iF lo B r _ j (str (bytesOf l)) w4 HJ.out Bd.out).mono ?_;rintro e w5 ⟨rfl,J,fS,oY⟩;have hold:(kf todo own (wE h own) j).length=aj j:=Bd.out.fit j;rw[aU,List.take_of_length_le (by rw[Jn.out];exact Qk _),gu (by rw[Jn.out,hold])]at J;have d:=wu (todo:=todo) (a:=own) (b:=wE h own) j;rw[show wE h own j=bytesOf l by unfold wE;rw[if_pos Y.out,HB.out]]at d;rw[d]at J;have UK:=Qh J;have W:=Qh fS;clear J fS oY hold d cs;go_wp2;go_roundw
    case rel=>
     have Z:=Hi.out.kept W.out (fun e=>I.out.1 (Eq.symm e)) (fun e=>I.out.2 (Eq.symm e));refine⟨fun z=>todo z&&z != j,Qh Z.1,UK,Qh (y.out.trans (W.out.mono (fun k hk=>⟨j,HJ.out,hk⟩))),Qh (fun i h1 A E=>?_)⟩
     by_cases ug:i=j
     ·rw[ug];exact V.out
     ·have h3:(i != j)=true:=by simpa using ug
      have E:(todo i&&i != j)=false:=E;rw[h3,Bool.and_true]at E;exact hD.out i h1 A E
    case measure=>
     have Z:=Hi.out.kept W.out (fun e=>I.out.1 (Eq.symm e)) (fun e=>I.out.2 (Eq.symm e));have h1:=U.out;have A:=Z.2;omega
   ·have H:Hid (eX h=false):=Qh (by
     cases hc:eX h with
     |false=>rfl
     |true=>
      have:=dn.1 hc j Y.out.1 Y.out.2;rw[hl]at this
      cases this)
    have y:=Qh (Eb.out.trans (Kept.aO L _));clear hl L lk;go_wp2;go_ret;exact⟨y.out,Or.inr ⟨H.out,rfl⟩⟩
theorem je {fn:Func} (hf:fn.results=#[.cell 2 66,.tmp 3]) (tmps:Array Value) (w:World) (g:Nat) (v:Value) (ht:tmps.getD 2 undef=.pointer (some ⟨g,0,none⟩)) (hv:tmps.getD 3 undef=v)
 (a b:ByteArray) (k m u i t z:Int) (n:Bool) (h:w.heap[g]? =some (.cells #[.string a,.string b,.int .u8 k,.int .i64 m,.int .i64 u,.int .i64 i,.int .i64 t,.int .i64 z,.bool n] 66 (0,0))):
 (results fn tmps).run Tryz.prog w=.ok (.tuple #[.agg #[.string a,.string b,.int .u8 k,.int .i64 m,.int .i64 u,.int .i64 i,.int .i64 t,.int .i64 z,.bool n],v]) w:=by
 rw[results_cell_tmp hf,ht,hv];have hl:=oF w g a b k m u i t z n h;simp[asAddr,hl,Result.andThen]
theorem Uj {lo:Nat} {r:Nat→Nat} (h:bD w lo B r own) (i:Nat) (hi:i<11):
 (Instr.lookup 166 (.map (some B)) (.int .i64 (i:Int)) false).run Tryz.prog w=.ok (.agg #[.int .i64 (fF i),.slice (some ⟨r i,0,none⟩) (aj i) (aj i)]) w:=
 h.map.look (P:=Tryz.prog) Tryz.underlying166 Tryz.underlying170 (x:=i) (v:=dw r i) (by unfold jy;rw[if_pos hi])
theorem mu (bs:List UInt8):qM (dO bs)=kH bs:=by
 have e:∀i,1≤i→i≤5→dO bs i=aA bs i:=fun i h1 A=>if_pos (by omega)
 cases h:kH bs with
 |true=>
  refine oI.2 fun i h1 A=>?_
  rw[e i h1 A];exact nF.1 h i h1 A
 |false=>
  cases A:qM (dO bs)with
  |false=>rfl
  |true=>
   have E:kH bs=true:=nF.2 fun i B D=>by
    rw[←e i B D];exact oI.1 A i B D
   rw[h]at E
   cases E
theorem nN (bs:List UInt8) (i:Nat) (hi:i<11):dO bs i=aA bs i:=if_pos hi
def iM:Array Value:=#[.string ⟨#[]⟩,.string ⟨#[]⟩,.int .u8 0,.int .i64 0,.int .i64 0,.int .i64 0,.int .i64 0,.int .i64 0,.bool false]
theorem oO {e:TypeId} (h:w.heap[g]? =some (.cells iM e (0,0))) (v0 v1 v2 v3 v4 v5 v6 v7 v8:Value):
 (((((((((w.setCell ⟨g,0,none⟩ v0).setCell ⟨g,1,none⟩ v1).setCell ⟨g,2,none⟩ v2).setCell ⟨g,3,none⟩ v3).setCell ⟨g,4,none⟩ v4).setCell ⟨g,5,none⟩ v5).setCell ⟨g,6,none⟩ v6).setCell ⟨g,7,none⟩ v7).setCell ⟨g,8,none⟩ v8).heap[g]? =
   some (.cells #[v0,v1,v2,v3,v4,v5,v6,v7,v8] e (0,0)):=by
 have st:∀{w:World} {cs:Array Value} (i:Nat) (v:Value),w.heap[g]? =some (.cells cs e (0,0))→(w.setCell ⟨g,i,none⟩ v).heap[g]? =some (.cells (cs.setIfInBounds i v) e (0,0)):=by
  intro w cs i v h;rw[setCell_eq_setRow w g i _ _ _ _ h];exact setRow_heap w g _ _ _ _ h
 have A:(w.setCell ⟨g,0,none⟩ v0).heap[g]? =some (.cells #[v0,.string ⟨#[]⟩,.int .u8 0,.int .i64 0,.int .i64 0,.int .i64 0,.int .i64 0,.int .i64 0,.bool false] e (0,0)):=st 0 v0 h;have h1:((w.setCell ⟨g,0,none⟩ v0).setCell ⟨g,1,none⟩ v1).heap[g]? =some (.cells #[v0,v1,.int .u8 0,.int .i64 0,.int .i64 0,.int .i64 0,.int .i64 0,.int .i64 0,.bool false] e (0,0)):=st 1 v1 A;have B:(((w.setCell ⟨g,0,none⟩ v0).setCell ⟨g,1,none⟩ v1).setCell ⟨g,2,none⟩ v2).heap[g]? =some (.cells #[v0,v1,v2,.int .i64 0,.int .i64 0,.int .i64 0,.int .i64 0,.int .i64 0,.bool false] e (0,0)):=st 2 v2 h1;have D:((((w.setCell ⟨g,0,none⟩ v0).setCell ⟨g,1,none⟩ v1).setCell ⟨g,2,none⟩ v2).setCell ⟨g,3,none⟩ v3).heap[g]? =some (.cells #[v0,v1,v2,v3,.int .i64 0,.int .i64 0,.int .i64 0,.int .i64 0,.bool false] e (0,0)):=st 3 v3 B;have E:(((((w.setCell ⟨g,0,none⟩ v0).setCell ⟨g,1,none⟩ v1).setCell ⟨g,2,none⟩ v2).setCell ⟨g,3,none⟩ v3).setCell ⟨g,4,none⟩ v4).heap[g]? =some (.cells #[v0,v1,v2,v3,v4,.int .i64 0,.int .i64 0,.int .i64 0,.bool false] e (0,0)):=st 4 v4 D;have G:((((((w.setCell ⟨g,0,none⟩ v0).setCell ⟨g,1,none⟩ v1).setCell ⟨g,2,none⟩ v2).setCell ⟨g,3,none⟩ v3).setCell ⟨g,4,none⟩ v4).setCell ⟨g,5,none⟩ v5).heap[g]? =some (.cells #[v0,v1,v2,v3,v4,v5,.int .i64 0,.int .i64 0,.bool false] e (0,0)):=st 5 v5 E;have H:(((((((w.setCell ⟨g,0,none⟩ v0).setCell ⟨g,1,none⟩ v1).setCell ⟨g,2,none⟩ v2).setCell ⟨g,3,none⟩ v3).setCell ⟨g,4,none⟩ v4).setCell ⟨g,5,none⟩ v5).setCell ⟨g,6,none⟩ v6).heap[g]? =some (.cells #[v0,v1,v2,v3,v4,v5,v6,.int .i64 0,.bool false] e (0,0)):=st 6 v6 G
 have I:((((((((w.setCell ⟨g,0,none⟩ v0).setCell ⟨g,1,none⟩ v1).setCell ⟨g,2,none⟩ v2).setCell ⟨g,3,none⟩ v3).setCell ⟨g,4,none⟩ v4).setCell ⟨g,5,none⟩ v5).setCell ⟨g,6,none⟩ v6).setCell ⟨g,7,none⟩ v7).heap[g]? =some (.cells #[v0,v1,v2,v3,v4,v5,v6,v7,.bool false] e (0,0)):=st 7 v7 H;have J:(((((((((w.setCell ⟨g,0,none⟩ v0).setCell ⟨g,1,none⟩ v1).setCell ⟨g,2,none⟩ v2).setCell ⟨g,3,none⟩ v3).setCell ⟨g,4,none⟩ v4).setCell ⟨g,5,none⟩ v5).setCell ⟨g,6,none⟩ v6).setCell ⟨g,7,none⟩ v7).setCell ⟨g,8,none⟩ v8).heap[g]? =some (.cells #[v0,v1,v2,v3,v4,v5,v6,v7,v8] e (0,0)):=st 8 v8 I;exact J
theorem sU {w0:World} (h:Kept (ay g) w0 w) (v0 v1 v2 v3 v4 v5 v6 v7 v8:Value):
 Kept (ay g) w0 (((((((((w.setCell ⟨g,0,none⟩ v0).setCell ⟨g,1,none⟩ v1).setCell ⟨g,2,none⟩ v2).setCell ⟨g,3,none⟩ v3).setCell ⟨g,4,none⟩ v4).setCell ⟨g,5,none⟩ v5).setCell ⟨g,6,none⟩ v6).setCell ⟨g,7,none⟩ v7).setCell ⟨g,8,none⟩ v8):=by
 have st:∀{w:World} (i:Nat) (v:Value),Kept (ay g) w0 w→Kept (ay g) w0 (w.setCell ⟨g,i,none⟩ v):=fun i v h=>h.setCell (a:=⟨g,i,none⟩) (Or.inr (show ay g g from rfl)) v
 exact st 8 v8 (st 7 v7 (st 6 v6 (st 5 v5 (st 4 v4 (st 3 v3 (st 2 v2 (st 1 v1 (st 0 v0 h))))))))
theorem zz:str dq=⟨#[117,115,116,97,114,0,48,48]⟩:=rfl
theorem Ij:str tH=⟨#[117,115,116,97,114,32,32,0]⟩:=rfl
end Head
namespace Rec
open Path
def BK (R T:Int) (l:List UInt8) (w:World) (e:Ending) (w':World):Prop:=
 ∃p c,e=.returned (.tuple #[.slice p (di R T l).1.length c,.int .i64 (di R T l).2])∧(di R T l).1.length≤c∧c≤maxLen∧cM w' p (di R T l).1.length (di R T l).1∧Below w.heap.size w w'
theorem qV (R T:Int) (l:List UInt8) (w w':World) (er:Int) (h:di R T l=([],er)) (hb:Below w.heap.size w w'):BK R T l w (.returned (.tuple #[.slice none 0 0,.int .i64 er])) w':=
 ⟨none,0,by rw[h];rfl,by rw[h];exact Qk _,by decide,by rw[h];exact⟨rfl,fun h=>absurd h (by simp)⟩,hb⟩
end Rec
namespace Head
open Hp Go.Proofs.YtdhibldkldlfpaaGreatDoor.Mp
noncomputable def bq:Array Oper:=lK Tryz.f74 13
def pV (B Q:Nat) (mg nm ln:ByteArray) (fL:Bool) (kd v1 v2 v3 v4 v5:Int):Nat→Value
 |0=>.map (some B)|1=>.string mg|2=>.bool fL|3=>.string nm|4=>.map (some B)|5=>.string ln|6=>.map (some B)|7=>.int .u8 kd
 |8=>.map (some Q)|9=>.int .i64 v1|10=>.map (some Q)|11=>.int .i64 v2|12=>.map (some Q)|13=>.int .i64 v3|14=>.map (some Q)|15=>.int .i64 v5
 |16=>.agg #[.int .i64 v1,.int .i64 v2,.int .i64 v3,.int .i64 v5]|17=>.map (some Q)|18=>.int .i64 v4|19=>.string mg|20=>.bool fL
 |21=>.agg #[.string nm,.string ln,.int .u8 kd,.int .i64 v1,.int .i64 v2,.int .i64 v3,.int .i64 v5,.int .i64 v4,.bool fL]|23=>.int .i64 0|_=>undef
theorem wH:bq.size=24:=rfl
theorem De:zK bq 73=true:=by kernel_rfl
theorem ai3:∃o,bq[0]? =some o∧o.op=.move (.tmp 4)∧o.dst=some 51:=⟨_,rfl,rfl,rfl⟩
theorem ai4:∃o,bq[1]? =some o∧o.op=.move (.tmp 7)∧o.dst=some 52:=⟨_,rfl,rfl,rfl⟩
theorem ai5:∃o,bq[2]? =some o∧o.op=.binOp .eql 9 (.tmp 52) (.const (.string ⟨#[117,115,116,97,114,32,32,0]⟩)) 9∧o.dst=some 53:=⟨_,rfl,rfl,rfl⟩
theorem ai6:∃o,bq[3]? =some o∧o.op=.call {callee:=.value (.func 105),args:=#[.tmp 51,.tmp 53],argTypes:=#[166,4]}∧o.dst=some 54:=⟨_,rfl,rfl,rfl⟩
theorem ai7:∃o,bq[4]? =some o∧o.op=.move (.tmp 4)∧o.dst=some 55:=⟨_,rfl,rfl,rfl⟩
theorem ai8:∃o,bq[5]? =some o∧o.op=.call {callee:=.value (.func 106),args:=#[.tmp 55,.const (.int .i64 8)],argTypes:=#[166,170]}∧o.dst=some 56:=⟨_,rfl,rfl,rfl⟩
theorem ai9:∃o,bq[6]? =some o∧o.op=.move (.tmp 4)∧o.dst=some 57:=⟨_,rfl,rfl,rfl⟩
theorem aj0:∃o,bq[7]? =some o∧o.op=.call {callee:=.value (.func 107),args:=#[.tmp 57],argTypes:=#[166]}∧o.dst=some 58:=⟨_,rfl,rfl,rfl⟩
theorem pop8:∃o,bq[8]? =some o∧o.op=.move (.tmp 8)∧o.dst=some 59:=⟨_,rfl,rfl,rfl⟩
theorem aj1:∃o,bq[9]? =some o∧o.op=.lookup 171 (.tmp 59) (.const (.int .i64 1)) false∧o.dst=some 60:=⟨_,rfl,rfl,rfl⟩
theorem Z0:∃o,bq[10]? =some o∧o.op=.move (.tmp 8)∧o.dst=some 61:=⟨_,rfl,rfl,rfl⟩
theorem Z1:∃o,bq[11]? =some o∧o.op=.lookup 171 (.tmp 61) (.const (.int .i64 2)) false∧o.dst=some 62:=⟨_,rfl,rfl,rfl⟩
theorem Z2:∃o,bq[12]? =some o∧o.op=.move (.tmp 8)∧o.dst=some 63:=⟨_,rfl,rfl,rfl⟩
theorem Z3:∃o,bq[13]? =some o∧o.op=.lookup 171 (.tmp 63) (.const (.int .i64 3)) false∧o.dst=some 64:=⟨_,rfl,rfl,rfl⟩
theorem Z4:∃o,bq[14]? =some o∧o.op=.move (.tmp 8)∧o.dst=some 65:=⟨_,rfl,rfl,rfl⟩
theorem Z6:∃o,bq[15]? =some o∧o.op=.lookup 171 (.tmp 65) (.const (.int .i64 5)) false∧o.dst=some 66:=⟨_,rfl,rfl,rfl⟩
theorem Z7:∃o,bq[16]? =some o∧o.op=.build 46 #[(0,.tmp 60),(1,.tmp 62),(2,.tmp 64),(3,.tmp 66)]∧o.dst=some 67:=⟨_,rfl,rfl,rfl⟩
theorem Z8:∃o,bq[17]? =some o∧o.op=.move (.tmp 8)∧o.dst=some 68:=⟨_,rfl,rfl,rfl⟩
theorem Z9:∃o,bq[18]? =some o∧o.op=.lookup 171 (.tmp 68) (.const (.int .i64 4)) false∧o.dst=some 69:=⟨_,rfl,rfl,rfl⟩
theorem aa0:∃o,bq[19]? =some o∧o.op=.move (.tmp 7)∧o.dst=some 70:=⟨_,rfl,rfl,rfl⟩
theorem aa1:∃o,bq[20]? =some o∧o.op=.binOp .eql 9 (.tmp 70) (.const (.string ⟨#[117,115,116,97,114,32,32,0]⟩)) 9∧o.dst=some 71:=⟨_,rfl,rfl,rfl⟩
theorem aa2:∃o,bq[21]? =some o∧o.op=.build 66 #[(0,.tmp 54),(1,.tmp 56),(2,.tmp 58),(3,.tmp 67),(4,.tmp 69),(5,.tmp 71)]∧o.dst=some 72:=⟨_,rfl,rfl,rfl⟩
theorem aa3:∃o,bq[22]? =some o∧o.op=.store 66 (.tmp 2) (.tmp 72)∧o.dst=none:=⟨_,rfl,rfl,rfl⟩
theorem Um:∃o,bq[23]? =some o∧o.op=.assign (.const (.int .i64 0))∧o.dst=some 3:=⟨_,rfl,rfl,rfl⟩
theorem EV (w:World) (a b c d:Int):(Instr.build 46 #[(0,.int .i64 a),(1,.int .i64 b),(2,.int .i64 c),(3,.int .i64 d)]).run Tryz.prog w=.ok (.agg #[.int .i64 a,.int .i64 b,.int .i64 c,.int .i64 d]) w:=by kernel_rfl
theorem EU (w:World) (n l:ByteArray) (k a b c d s:Int) (g:Bool):(Instr.build 66 #[(0,.string n),(1,.string l),(2,.int .u8 k),(3,.agg #[.int .i64 a,.int .i64 b,.int .i64 c,.int .i64 d]),(4,.int .i64 s),(5,.bool g)]).run Tryz.prog w=.ok (.agg #[.string n,.string l,.int .u8 k,.int .i64 a,.int .i64 b,.int .i64 c,.int .i64 d,.int .i64 s,.bool g]) w:=by kernel_rfl
theorem MA {o:Oper} {a:Act} {K:Act→World→Prop} {Q:Exit→Act→World→Prop} (p x:Operand) (ho:o.op=.store 66 p x) (g:Nat) (hp:a.eval p=.pointer (some ⟨g,0,none⟩)) (n l:ByteArray) (k m u i t s:Int) (b:Bool)
 (hx:a.eval x=.agg #[.string n,.string l,.int .u8 k,.int .i64 m,.int .i64 u,.int .i64 i,.int .i64 t,.int .i64 s,.bool b]) (hz:w.heap[g]? =some (.cells iM 66 (0,0)))
 (h:∀w',w'.heap[g]? =some (.cells #[.string n,.string l,.int .u8 k,.int .i64 m,.int .i64 u,.int .i64 i,.int .i64 t,.int .i64 s,.bool b] 66 (0,0))→Kept (ay g) w w'→K (a.put o.dst undef) w'):Oper.wp Tryz.prog o a w K Q:=by
 have c0:=bJ hz;have f0:=gj hz;have A:=oO hz;have D:=sU (Kept.refl (ay g) w);unfold iM at c0;clear hz
 have B:(execOp a.eval o).run Tryz.prog w=.ok .skip (((((((((w.setCell ⟨g,0,none⟩ (.string n)).setCell ⟨g,1,none⟩ (.string l)).setCell ⟨g,2,none⟩ (.int .u8 k)).setCell ⟨g,3,none⟩ (.int .i64 m)).setCell ⟨g,4,none⟩ (.int .i64 u)).setCell ⟨g,5,none⟩ (.int .i64 i)).setCell ⟨g,6,none⟩ (.int .i64 t)).setCell ⟨g,7,none⟩ (.int .i64 s)).setCell ⟨g,8,none⟩ (.bool b)):=by
  generalize a.eval=ev at hp hx;simp[go_sem,execOp,ho,hp,hx,c0,f0,Result.andThen]
 unfold Oper.wp;rw[B,Oper.upon_skip];exact h _ (A _ _ _ _ _ _ _ _ _) (D _ _ _ _ _ _ _ _ _)
theorem qP {Q':Exit→Act→World→Prop} {a0:Act} {w3:World} (g lo B Q:Nat) (r:Nat→Nat) (own:Nat→List UInt8) (mg:ByteArray) (fL:Bool) (v1 v2 v3 v4 v5:Int)
 (hsz:73≤a0.tmps.size) (h2:a0.eval (.tmp 2)=.pointer (some ⟨g,0,none⟩)) (h4:a0.eval (.tmp 4)=.map (some B)) (h7:a0.eval (.tmp 7)=.string mg) (h8:a0.eval (.tmp 8)=.map (some Q))
 (hP:bD w3 lo B r own) (hBg:B≠g) (hrg:∀i,i<11→r i≠g) (hz:w3.heap[g]? =some (.cells iM 66 (0,0)))
 (MR:∀w',Kept (ay g) w3 w'→(Instr.lookup 171 (.map (some Q)) (.int .i64 1) false).run Tryz.prog w'=.ok (.int .i64 v1) w'∧(Instr.lookup 171 (.map (some Q)) (.int .i64 2) false).run Tryz.prog w'=.ok (.int .i64 v2) w'∧
  (Instr.lookup 171 (.map (some Q)) (.int .i64 3) false).run Tryz.prog w'=.ok (.int .i64 v3) w'∧(Instr.lookup 171 (.map (some Q)) (.int .i64 4) false).run Tryz.prog w'=.ok (.int .i64 v4) w'∧(Instr.lookup 171 (.map (some Q)) (.int .i64 5) false).run Tryz.prog w'=.ok (.int .i64 v5) w')
 (pT:(mg.toList==[117,115,116,97,114,32,32,0])=fL)
 (hQ:∀a' w',a'.defers=a0.defers→a'.eval (.tmp 2)=.pointer (some ⟨g,0,none⟩)→a'.eval (.tmp 3)=.int .i64 0→
  w'.heap[g]? =some (.cells #[.string (str (lG (aK (own 10)) (aK (own 0)) fL)),.string (str (aK (own 8))),.int .u8 ((yM (own 7)).toNat:Int),.int .i64 v1,.int .i64 v2,.int .i64 v3,.int .i64 v5,.int .i64 v4,.bool fL] 66 (0,0))→Kept (ay g) w3 w'→Q' .normal a' w'):
 wpAny Tryz.prog .any bq Q' bq.size (Array.replicate bq.size false) a0 w3.drew:=by
 have no:∀j,(Array.replicate bq.size false).getD j false=false:=fun j=>by
  rw[Array.getD_eq_getD_getElem?,Array.getElem?_replicate];split<;>rfl
 obtain⟨nm,Z⟩:∃nm,nm=str (lG (aK (own 10)) (aK (own 0)) fL):=⟨_,rfl⟩
 obtain⟨ln,Y⟩:∃ln,ln=str (aK (own 8)):=⟨_,rfl⟩
 obtain⟨kd,m⟩:∃kd:Int,kd=((yM (own 7)).toNat:Int):=⟨_,rfl⟩
 rw[←Z,←Y,←m]at hQ;obtain⟨C,f⟩:∃C:Array Value,C=#[.string nm,.string ln,.int .u8 kd,.int .i64 v1,.int .i64 v2,.int .i64 v3,.int .i64 v5,.int .i64 v4,.bool fL]:=⟨_,rfl⟩
 rw[←f]at hQ;refine Hc (pV B Q mg nm ln fL kd v1 v2 v3 v4 v5) a0 (fun listed w=>Kept (ay g) w3 w∧w.heap[g]? =some (.cells (if listed.getD 22 false=true then C else iM) 66 (0,0))) 73 De hsz ?_ ?_ ⟨(Kept.refl _ w3).drew,by rw[no];exact hz⟩
 ·intro listed a w j o h H l I
  have c:=bp l;obtain⟨hk,O⟩:=h.wd
  have bH:∀w',j≠22→Kept ai w w'→Kept (ay g) w3 w'∧w'.heap[g]? =some (.cells (if(listed.setIfInBounds j true).getD 22 false=true then C else iM) 66 (0,0)):=fun w' X L=>by
   rw[aa c,if_neg (Ne.symm X)];exact⟨hk.trans (L.dY _),L.some_ O id⟩
  have p:j<24:=by
   have:=(Array.getElem?_eq_some_iff.1 H).1
   rwa [wH]at this
  have N:bD w lo B r own:=hP.kept hk hBg hrg;obtain⟨z,l2,l3,l4,l5⟩:=MR w hk;have same:∀{j':Nat} {E:Oper},bq[j']? =some E→j=j'→E=o:=fun {j' E} h' e=>by subst e;exact Option.some.inj (h'.symm.trans H)
  rcases(show j=0∨j=1∨j=2∨j=3∨j=4∨j=5∨j=6∨j=7∨j=8∨j=9∨j=10∨j=11∨j=12∨j=13∨j=14∨j=15∨j=16∨j=17∨j=18∨j=19∨j=20∨j=21∨j=22∨j=23 by omega)with rfl|rfl|rfl|rfl|rfl|rfl|rfl|rfl|rfl|rfl|rfl|rfl|rfl|rfl|rfl|rfl|rfl|rfl|rfl|rfl|rfl|rfl|rfl|rfl
  ·obtain⟨E,A,D,G⟩:=ai3
   obtain rfl:=same A rfl;exact wp_move _ _ (Or.inl D) ((h.old (t:=4) (by kernel_rfl)).trans h4) ⟨rfl,bH w (by decide) (Kept.refl _ _)⟩
  ·obtain⟨E,A,D,G⟩:=ai4
   obtain rfl:=same A rfl;exact wp_move _ _ (Or.inl D) ((h.old (t:=7) (by kernel_rfl)).trans h7) ⟨rfl,bH w (by decide) (Kept.refl _ _)⟩
  ·obtain⟨E,A,D,G⟩:=ai5
   obtain rfl:=same A rfl;have e:=(h.get H I (i:=1) (d:=52) (by kernel_rfl) rfl)
   refine cE (.bool fL) ?_ ⟨rfl,bH w (by decide) (Kept.refl _ _)⟩;have e:a.eval (.tmp 52)=.string mg:=e;have U:a.eval (.const (.string ⟨#[117,115,116,97,114,32,32,0]⟩))=.string ⟨#[117,115,116,97,114,32,32,0]⟩:=rfl;generalize a.eval=ev at e U⊢;simp[go_sem,execOp,D,e,U,pT]
  ·obtain⟨E,A,D,G⟩:=ai6
   obtain rfl:=same A rfl;have J:a.eval (.tmp 51)=.map (some B):=(h.get H I (i:=0) (d:=51) (by kernel_rfl) rfl)
   have M:a.eval (.tmp 53)=.bool fL:=(h.get H I (i:=2) (d:=53) (by kernel_rfl) rfl)
   refine q9 _ _ _ D #[.map (some B),.bool fL] (by simp[J,M]) (enters_of Tryz.func105 (by kernel_rfl) rfl) (.string nm) (fun w'=>Kept ai w w') ?_ (fun w' L=>⟨rfl,bH w' (by decide) L⟩);rw[Z];exact Pm lo B r own fL w N
  ·obtain⟨E,A,D,G⟩:=ai7
   obtain rfl:=same A rfl;exact wp_move _ _ (Or.inl D) ((h.old (t:=4) (by kernel_rfl)).trans h4) ⟨rfl,bH w (by decide) (Kept.refl _ _)⟩
  ·obtain⟨E,A,D,G⟩:=ai8
   obtain rfl:=same A rfl;have J:a.eval (.tmp 55)=.map (some B):=(h.get H I (i:=4) (d:=55) (by kernel_rfl) rfl)
   refine q9 _ _ _ D #[.map (some B),.int .i64 8] (by simp[J,NL]) (enters_of Tryz.func106 (by kernel_rfl) rfl) (.string ln) (fun w'=>Kept ai w w') ?_ (fun w' L=>⟨rfl,bH w' (by decide) L⟩);rw[Y];exact gR lo B r own 8 w (by omega) N
  ·obtain⟨E,A,D,G⟩:=ai9
   obtain rfl:=same A rfl;exact wp_move _ _ (Or.inl D) ((h.old (t:=4) (by kernel_rfl)).trans h4) ⟨rfl,bH w (by decide) (Kept.refl _ _)⟩
  ·obtain⟨E,A,D,G⟩:=aj0
   obtain rfl:=same A rfl;have J:a.eval (.tmp 57)=.map (some B):=(h.get H I (i:=6) (d:=57) (by kernel_rfl) rfl)
   refine q9 _ _ _ D #[.map (some B)] (by simp[J]) (enters_of Tryz.func107 (by kernel_rfl) rfl) (.int .u8 kd) (fun w'=>Kept ai w w') ?_ (fun w' L=>⟨rfl,bH w' (by decide) L⟩);rw[m];refine(OS lo B r own w N).mono ?_;rintro e w' ⟨rfl,rfl⟩;exact⟨rfl,Kept.refl _ _⟩
  ·obtain⟨E,A,D,G⟩:=pop8
   obtain rfl:=same A rfl;exact wp_move _ _ (Or.inl D) ((h.old (t:=8) (by kernel_rfl)).trans h8) ⟨rfl,bH w (by decide) (Kept.refl _ _)⟩
  ·obtain⟨E,A,D,G⟩:=aj1
   obtain rfl:=same A rfl;exact oQ _ _ _ D _ _ _ (h.get H I (i:=8) (d:=59) (by kernel_rfl) rfl) rfl z ⟨rfl,bH w (by decide) (Kept.refl _ _)⟩
  ·obtain⟨E,A,D,G⟩:=Z0
   obtain rfl:=same A rfl;exact wp_move _ _ (Or.inl D) ((h.old (t:=8) (by kernel_rfl)).trans h8) ⟨rfl,bH w (by decide) (Kept.refl _ _)⟩
  ·obtain⟨E,A,D,G⟩:=Z1
   obtain rfl:=same A rfl;exact oQ _ _ _ D _ _ _ (h.get H I (i:=10) (d:=61) (by kernel_rfl) rfl) rfl l2 ⟨rfl,bH w (by decide) (Kept.refl _ _)⟩
  ·obtain⟨E,A,D,G⟩:=Z2
   obtain rfl:=same A rfl;exact wp_move _ _ (Or.inl D) ((h.old (t:=8) (by kernel_rfl)).trans h8) ⟨rfl,bH w (by decide) (Kept.refl _ _)⟩
  ·obtain⟨E,A,D,G⟩:=Z3
   obtain rfl:=same A rfl;exact oQ _ _ _ D _ _ _ (h.get H I (i:=12) (d:=63) (by kernel_rfl) rfl) rfl l3 ⟨rfl,bH w (by decide) (Kept.refl _ _)⟩
  ·obtain⟨E,A,D,G⟩:=Z4
   obtain rfl:=same A rfl;exact wp_move _ _ (Or.inl D) ((h.old (t:=8) (by kernel_rfl)).trans h8) ⟨rfl,bH w (by decide) (Kept.refl _ _)⟩
  ·obtain⟨E,A,D,G⟩:=Z6
   obtain rfl:=same A rfl;exact oQ _ _ _ D _ _ _ (h.get H I (i:=14) (d:=65) (by kernel_rfl) rfl) rfl l5 ⟨rfl,bH w (by decide) (Kept.refl _ _)⟩
  ·obtain⟨E,A,D,G⟩:=Z7
   obtain rfl:=same A rfl;have J:=(h.get H I (i:=9) (d:=60) (by kernel_rfl) rfl)
   have M:=(h.get H I (i:=11) (d:=62) (by kernel_rfl) rfl)
   have R:=(h.get H I (i:=13) (d:=64) (by kernel_rfl) rfl)
   have T:=(h.get H I (i:=15) (d:=66) (by kernel_rfl) rfl)
   refine cE _ ?_ ⟨rfl,bH w (by decide) (Kept.refl _ _)⟩;have b:=EV w v1 v2 v3 v5;have J:a.eval (.tmp 60)=.int .i64 v1:=J;have M:a.eval (.tmp 62)=.int .i64 v2:=M;have R:a.eval (.tmp 64)=.int .i64 v3:=R;have T:a.eval (.tmp 66)=.int .i64 v5:=T;simp[execOp,D,J,M,R,T,b,Result.andThen,pV]
  ·obtain⟨E,A,D,G⟩:=Z8
   obtain rfl:=same A rfl;exact wp_move _ _ (Or.inl D) ((h.old (t:=8) (by kernel_rfl)).trans h8) ⟨rfl,bH w (by decide) (Kept.refl _ _)⟩
  ·obtain⟨E,A,D,G⟩:=Z9
   obtain rfl:=same A rfl;exact oQ _ _ _ D _ _ _ (h.get H I (i:=17) (d:=68) (by kernel_rfl) rfl) rfl l4 ⟨rfl,bH w (by decide) (Kept.refl _ _)⟩
  ·obtain⟨E,A,D,G⟩:=aa0
   obtain rfl:=same A rfl;exact wp_move _ _ (Or.inl D) ((h.old (t:=7) (by kernel_rfl)).trans h7) ⟨rfl,bH w (by decide) (Kept.refl _ _)⟩
  ·obtain⟨E,A,D,G⟩:=aa1
   obtain rfl:=same A rfl;have e:=(h.get H I (i:=19) (d:=70) (by kernel_rfl) rfl)
   refine cE (.bool fL) ?_ ⟨rfl,bH w (by decide) (Kept.refl _ _)⟩;have e:a.eval (.tmp 70)=.string mg:=e;have U:a.eval (.const (.string ⟨#[117,115,116,97,114,32,32,0]⟩))=.string ⟨#[117,115,116,97,114,32,32,0]⟩:=rfl;generalize a.eval=ev at e U⊢;simp[go_sem,execOp,D,e,U,pT]
  ·obtain⟨E,A,D,G⟩:=aa2
   obtain rfl:=same A rfl;have J:a.eval (.tmp 54)=.string nm:=(h.get H I (i:=3) (d:=54) (by kernel_rfl) rfl)
   have M:a.eval (.tmp 56)=.string ln:=(h.get H I (i:=5) (d:=56) (by kernel_rfl) rfl)
   have R:a.eval (.tmp 58)=.int .u8 kd:=(h.get H I (i:=7) (d:=58) (by kernel_rfl) rfl)
   have T:a.eval (.tmp 67)=.agg #[.int .i64 v1,.int .i64 v2,.int .i64 v3,.int .i64 v5]:=(h.get H I (i:=16) (d:=67) (by kernel_rfl) rfl)
   have q:a.eval (.tmp 69)=.int .i64 v4:=(h.get H I (i:=18) (d:=69) (by kernel_rfl) rfl)
   have u:a.eval (.tmp 71)=.bool fL:=(h.get H I (i:=20) (d:=71) (by kernel_rfl) rfl)
   refine cE _ ?_ ⟨rfl,bH w (by decide) (Kept.refl _ _)⟩;have b:=EU w nm ln kd v1 v2 v3 v5 v4 fL;simp[execOp,D,J,M,R,T,q,u,b,Result.andThen,pV]
  ·obtain⟨E,A,D,G⟩:=aa3
   obtain rfl:=same A rfl;have J:=(h.old (t:=2) (by kernel_rfl)).trans h2;have M:=(h.get H I (i:=21) (d:=72) (by kernel_rfl) rfl)
   have W:w.heap[g]? =some (.cells iM 66 (0,0)):=by rw[dS l]at O;exact O
   refine MA _ _ D g J nm ln kd v1 v2 v3 v5 v4 fL M W (fun w' y L=>⟨rfl,hk.trans L,?_⟩);rw[aa c,if_pos rfl,if_pos rfl,f];exact y
  ·obtain⟨E,A,D,G⟩:=Um
   obtain rfl:=same A rfl;exact wp_move _ _ (Or.inr D) rfl ⟨rfl,bH w (by decide) (Kept.refl _ _)⟩
 ·intro listed a w h V
  have all:∀j,j<24→listed.getD j false=true:=fun j X=>V j (by rw[wH];exact X)
  obtain⟨hk,O⟩:=h.wd;rw[all 22 (by omega),if_pos rfl]at O;obtain⟨E,A,_,G⟩:=Um;exact hQ a w h.df ((h.old (t:=2) (by kernel_rfl)).trans h2) (h.done 23 E 3 A G (all 23 (by omega))) O hk
end Head
namespace Head
open Hp Go.Proofs.YtdhibldkldlfpaaGreatDoor.Mp Fp Go.Proofs.YtdhibldkldlfpaaGreatDoor.Field
def Yq (r:Option (List Int)) (v:Value) (y:Bool) (w:World):Prop:=
 (∃l p c,r=some l∧y=true∧v=.slice p l.length c∧l.length≤c∧cK w p l.length (bytesOf l))∨(r=none∧y=false∧v=.slice none 0 0)
theorem PW (n wide:Int) (w:World) (w0:(Lit.int .i64 n).wf=true) (w1:(Lit.int .i64 wide).wf=true):
 Calls Tryz.prog 132 #[.int .i64 n,.int .i64 wide] w fun e w'=>∃v y,e=.returned (.tuple #[v,.bool y])∧Yq (dJ n wide) v y w'∧Kept ai w w':=by
 refine(wU n wide w w0 w1).mono ?_;rintro e w' ⟨A,(⟨l,v,hl,rfl,B⟩|⟨hl,rfl⟩)⟩
 ·obtain⟨p,c,rfl,hc,_,D,_⟩:=lT B (I2 hl)
  exact⟨_,true,rfl,Or.inl ⟨l,p,c,hl,rfl,rfl,hc,D⟩,Kept.aO A _⟩
 ·exact⟨_,false,rfl,Or.inr ⟨hl,rfl,rfl⟩,Kept.aO A _⟩
noncomputable def bj:Array Oper:=lK Tryz.f93 18
def PA (A C:Value) (k:Int) (pa pc:Addr) (x z:Int) (vy:Value × Bool):Nat→Value
 |0=>A|1=>.int .i64 k|2=>.pointer (some pa)|3=>.int .i64 x|4=>C|5=>.int .i64 k|6=>.pointer (some pc)|7=>.int .i64 z|8=>.tuple #[vy.1,.bool vy.2]|9=>.tuple #[vy.1,.bool vy.2]|10=>vy.1|11=>.bool vy.2|12=>vy.1|13=>.bool vy.2|_=>undef
theorem oN:bj.size=14:=rfl
theorem wV:kS bj 152=true:=by kernel_rfl
theorem aa5:aR bj 0=some 95:=rfl
theorem aj5:∃o,bj[0]? =some o∧o.op=.move (.tmp 10)∧o.dst=some 95:=⟨_,rfl,rfl,rfl⟩
theorem aa6:aR bj 1=some 96:=rfl
theorem aj6:∃o,bj[1]? =some o∧o.op=.move (.tmp 13)∧o.dst=some 96:=⟨_,rfl,rfl,rfl⟩
theorem aa7:aR bj 2=some 97:=rfl
theorem aj7:∃o,bj[2]? =some o∧o.op=.indexAddr 23 (.tmp 95) (.tmp 96)∧o.dst=some 97:=⟨_,rfl,rfl,rfl⟩
theorem aa8:aR bj 3=some 98:=rfl
theorem aj8:∃o,bj[3]? =some o∧o.op=.load 3 (.tmp 97)∧o.dst=some 98:=⟨_,rfl,rfl,rfl⟩
theorem aa9:aR bj 4=some 99:=rfl
theorem aj9:∃o,bj[4]? =some o∧o.op=.move (.tmp 12)∧o.dst=some 99:=⟨_,rfl,rfl,rfl⟩
theorem ab0:aR bj 5=some 100:=rfl
theorem ak0:∃o,bj[5]? =some o∧o.op=.move (.tmp 13)∧o.dst=some 100:=⟨_,rfl,rfl,rfl⟩
theorem ab1:aR bj 6=some 101:=rfl
theorem ak1:∃o,bj[6]? =some o∧o.op=.indexAddr 23 (.tmp 99) (.tmp 100)∧o.dst=some 101:=⟨_,rfl,rfl,rfl⟩
theorem ab2:aR bj 7=some 102:=rfl
theorem ak2:∃o,bj[7]? =some o∧o.op=.load 3 (.tmp 101)∧o.dst=some 102:=⟨_,rfl,rfl,rfl⟩
theorem ab3:aR bj 8=some 103:=rfl
theorem ak3:∃o,bj[8]? =some o∧o.op=.call {callee:=.value (.func 132),args:=#[.tmp 98,.tmp 102],argTypes:=#[3,3]}∧o.dst=some 103:=⟨_,rfl,rfl,rfl⟩
theorem ab4:aR bj 9=some 94:=rfl
theorem ak4:∃o,bj[9]? =some o∧o.op=.move (.tmp 103)∧o.dst=some 94:=⟨_,rfl,rfl,rfl⟩
theorem WD:aR bj 10=some 104:=rfl
theorem ab5:∃o,bj[10]? =some o∧o.op=.extract (.tmp 94) 0∧o.dst=some 104:=⟨_,rfl,rfl,rfl⟩
theorem WE:aR bj 11=some 105:=rfl
theorem ab6:∃o,bj[11]? =some o∧o.op=.extract (.tmp 94) 1∧o.dst=some 105:=⟨_,rfl,rfl,rfl⟩
theorem WG:aR bj 12=some 14:=rfl
theorem ab7:∃o,bj[12]? =some o∧o.op=.assign (.tmp 104)∧o.dst=some 14:=⟨_,rfl,rfl,rfl⟩
theorem WH:aR bj 13=some 15:=rfl
theorem ab8:∃o,bj[13]? =some o∧o.op=.assign (.tmp 105)∧o.dst=some 15:=⟨_,rfl,rfl,rfl⟩
theorem DD:∀j,8<j→j<14→nj bj j 8=true∨nj bj j 9=true∨nj bj j 10=true∨nj bj j 11=true:=by
 intro j h1 A;rcases(show j=9∨j=10∨j=11∨j=12∨j=13 by omega)with rfl|rfl|rfl|rfl|rfl
 ·exact Or.inl (by kernel_rfl)
 ·exact Or.inr (Or.inl (by kernel_rfl))
 ·exact Or.inr (Or.inl (by kernel_rfl))
 ·exact Or.inr (Or.inr (Or.inl (by kernel_rfl)))
 ·exact Or.inr (Or.inr (Or.inr (by kernel_rfl)))
theorem DE {Q':Exit→Act→World→Prop} {a0:Act} {w3:World} (A C:Value) (k:Int) (pa pc:Addr) (x z:Int) (R:Value→Bool→World→Prop)
 (hsz:152≤a0.tmps.size) (ni:a0.eval (.tmp 10)=A) (MJ:a0.eval (.tmp 12)=C) (h13:a0.eval (.tmp 13)=.int .i64 k)
 (hia:∀w,(Instr.indexAt 23 A (.int .i64 k)).run Tryz.prog w=.ok (.pointer (some pa)) w)
 (hic:∀w,(Instr.indexAt 23 C (.int .i64 k)).run Tryz.prog w=.ok (.pointer (some pc)) w)
 (hla:∀w,Kept ai w3 w→(Instr.loadAt 3 (.pointer (some pa))).run Tryz.prog w=.ok (.int .i64 x) w)
 (VS:∀w,Kept ai w3 w→(Instr.loadAt 3 (.pointer (some pc))).run Tryz.prog w=.ok (.int .i64 z) w)
 (Ob:∀w,Kept ai w3 w→Calls Tryz.prog 132 #[.int .i64 x,.int .i64 z] w fun e w'=>∃v y,e=.returned (.tuple #[v,.bool y])∧R v y w'∧Kept ai w w')
 (hQ:∀v y w',R v y w'→Kept ai w3 w'→Q' .normal ((((((((((((((a0.put (some 95) (A)).put (some 96) (.int .i64 k)).put (some 97) (.pointer (some pa))).put (some 98) (.int .i64 x)).put (some 99) (C)).put (some 100) (.int .i64 k)).put (some 101) (.pointer (some pc))).put (some 102) (.int .i64 z)).put (some 103) (.tuple #[v,.bool y])).put (some 94) (.tuple #[v,.bool y])).put (some 104) (v)).put (some 105) (.bool y)).put (some 14) (v)).put (some 15) (.bool y)) w'):
 wpAny Tryz.prog .any bj Q' bj.size (Array.replicate bj.size false) a0 w3.drew:=by
 have no:∀j,(Array.replicate bj.size false).getD j false=false:=fun j=>by
  rw[Array.getD_eq_getD_getElem?,Array.getElem?_replicate];split<;>rfl
 refine jg (Γ:=Value × Bool) (PA A C k pa pc x z) (undef,false) a0 (fun I listed w=>Kept ai w3 w∧(listed.getD 8 false=true→R I.1 I.2 w)∧(∀j,8<j→j<14→listed.getD j false=true→listed.getD 8 false=true)) 152 wV hsz ?_ ?_
  ⟨(Kept.refl _ w3).drew,fun h=>(by rw[no]at h;cases h),fun j _ _ h=>(by rw[no]at h;cases h)⟩
 ·intro I listed a w j o h E Y G
  have W:=bp Y;obtain⟨hk,c,O⟩:=h.wd
  have f:j<14:=by
   have:=(Array.getElem?_eq_some_iff.1 E).1
   rwa [oN]at this
  have bH:j≠8→∃X,(∀i,listed.getD i false=true→PA A C k pa pc x z X i=PA A C k pa pc x z I i)∧a.put o.dst (PA A C k pa pc x z I j)=a.put o.dst (PA A C k pa pc x z X j)∧(Kept ai w3 w∧((listed.setIfInBounds j true).getD 8 false=true→R X.1 X.2 w)∧(∀j',8<j'→j'<14→(listed.setIfInBounds j true).getD j' false=true→(listed.setIfInBounds j true).getD 8 false=true)):=fun b=>by
   refine⟨I,fun _ _=>rfl,rfl,hk,?_,fun j' h1 M N=>?_⟩
   ·rw[aa W,if_neg (Ne.symm b)]
    exact c
   ·rw[aa W,if_neg (Ne.symm b)]
    rw[aa W]at N
    by_cases V:j'=j
    ·subst V
     rcases DD j' h1 M with hd|hd|hd|hd
     ·exact bW E G hd
     ·exact O 9 (by omega) (by omega) (bW E G hd)
     ·exact O 10 (by omega) (by omega) (bW E G hd)
     ·exact O 11 (by omega) (by omega) (bW E G hd)
    ·rw[if_neg V]at N
     exact O j' h1 M N
  have same:∀{j':Nat} {H:Oper},bj[j']? =some H→j=j'→H=o:=fun {j' H} h' e=>by subst e;exact Option.some.inj (h'.symm.trans E)
  rcases(show j=0∨j=1∨j=2∨j=3∨j=4∨j=5∨j=6∨j=7∨j=8∨j=9∨j=10∨j=11∨j=12∨j=13 by omega)with rfl|rfl|rfl|rfl|rfl|rfl|rfl|rfl|rfl|rfl|rfl|rfl|rfl|rfl
  ·obtain⟨H,D,B,J⟩:=aj5
   obtain rfl:=same D rfl;exact wp_move _ _ (Or.inl B) ((h.old (t:=10) (by kernel_rfl)).trans ni) (bH (by decide))
  ·obtain⟨H,D,B,J⟩:=aj6
   obtain rfl:=same D rfl;exact wp_move _ _ (Or.inl B) ((h.old (t:=13) (by kernel_rfl)).trans h13) (bH (by decide))
  ·obtain⟨H,D,B,J⟩:=aj7
   obtain rfl:=same D rfl;have T:a.eval (.tmp 95)=A:=(h.get E G (i:=0) (d:=95) (by kernel_rfl) rfl)
   have U:a.eval (.tmp 96)=.int .i64 k:=(h.get E G (i:=1) (d:=96) (by kernel_rfl) rfl)
   refine cE _ ?_ (bH (by decide));have q:=hia w;simp[execOp,B,T,U,q,Result.andThen,PA]
  ·obtain⟨H,D,B,J⟩:=aj8
   obtain rfl:=same D rfl;have e:a.eval (.tmp 97)=.pointer (some pa):=(h.get E G (i:=2) (d:=97) (by kernel_rfl) rfl)
   refine cE _ ?_ (bH (by decide));have q:=hla w hk;simp[execOp,B,e,q,Result.andThen,PA]
  ·obtain⟨H,D,B,J⟩:=aj9
   obtain rfl:=same D rfl;exact wp_move _ _ (Or.inl B) ((h.old (t:=12) (by kernel_rfl)).trans MJ) (bH (by decide))
  ·obtain⟨H,D,B,J⟩:=ak0
   obtain rfl:=same D rfl;exact wp_move _ _ (Or.inl B) ((h.old (t:=13) (by kernel_rfl)).trans h13) (bH (by decide))
  ·obtain⟨H,D,B,J⟩:=ak1
   obtain rfl:=same D rfl;have T:a.eval (.tmp 99)=C:=(h.get E G (i:=4) (d:=99) (by kernel_rfl) rfl)
   have U:a.eval (.tmp 100)=.int .i64 k:=(h.get E G (i:=5) (d:=100) (by kernel_rfl) rfl)
   refine cE _ ?_ (bH (by decide));have q:=hic w;simp[execOp,B,T,U,q,Result.andThen,PA]
  ·obtain⟨H,D,B,J⟩:=ak2
   obtain rfl:=same D rfl;have e:a.eval (.tmp 101)=.pointer (some pc):=(h.get E G (i:=6) (d:=101) (by kernel_rfl) rfl)
   refine cE _ ?_ (bH (by decide));have q:=VS w hk;simp[execOp,B,e,q,Result.andThen,PA]
  ·obtain⟨H,D,B,J⟩:=ak3
   obtain rfl:=same D rfl;have T:a.eval (.tmp 98)=.int .i64 x:=(h.get E G (i:=3) (d:=98) (by kernel_rfl) rfl)
   have U:a.eval (.tmp 102)=.int .i64 z:=(h.get E G (i:=7) (d:=102) (by kernel_rfl) rfl)
   have p:∀j',8<j'→j'<14→listed.getD j' false=true→False:=fun j' h1 M N=>by
    have Z:=O j' h1 M N;rw[dS Y]at Z
    cases Z
   refine DT _ _ _ B #[.int .i64 x,.int .i64 z] (by simp[T,U]) (enters_of Tryz.func132 (by kernel_rfl) rfl) (fun v w'=>∃u y,v=.tuple #[u,.bool y]∧R u y w'∧Kept ai w w') ((Ob w hk).mono fun e w' ⟨u,y,he,hr,jE⟩=>⟨_,he,u,y,rfl,hr,jE⟩) (fun v w' ⟨u,y,hv,hr,jE⟩=>⟨(u,y),fun i hi=>?_,by rw[hv];rfl,hk.trans jE,fun _=>hr,fun j' h1 M N=>by rw[aa W,if_pos rfl]⟩)
   have m:i<8:=by
    rcases Nat.lt_trichotomy i 8 with h1|h1|h1
    ·exact h1
    ·rw[h1,dS Y]at hi;cases hi
    ·by_cases M:i<14
     ·exact(p i h1 M hi).elim
     ·exfalso
      have hs:=h.ls;rw[oN]at hs;rw[Array.getD_eq_getD_getElem?,Array.getElem?_eq_none (by omega)]at hi
      cases hi
   rcases(show i=0∨i=1∨i=2∨i=3∨i=4∨i=5∨i=6∨i=7 by omega)with rfl|rfl|rfl|rfl|rfl|rfl|rfl|rfl<;>rfl
  ·obtain⟨H,D,B,J⟩:=ak4
   obtain rfl:=same D rfl;have e:a.eval (.tmp 103)=.tuple #[I.1,.bool I.2]:=(h.get E G (i:=8) (d:=103) (by kernel_rfl) rfl)
   exact wp_move _ _ (Or.inl B) e (bH (by decide))
  ·obtain⟨H,D,B,J⟩:=ab5
   obtain rfl:=same D rfl;have e:a.eval (.tmp 94)=.tuple #[I.1,.bool I.2]:=(h.get E G (i:=9) (d:=94) (by kernel_rfl) rfl)
   refine cE _ ?_ (bH (by decide));generalize a.eval=ev at e⊢;simp[go_sem,execOp,B,e,PA]
  ·obtain⟨H,D,B,J⟩:=ab6
   obtain rfl:=same D rfl;have e:a.eval (.tmp 94)=.tuple #[I.1,.bool I.2]:=(h.get E G (i:=9) (d:=94) (by kernel_rfl) rfl)
   refine cE _ ?_ (bH (by decide));generalize a.eval=ev at e⊢;simp[go_sem,execOp,B,e,PA]
  ·obtain⟨H,D,B,J⟩:=ab7
   obtain rfl:=same D rfl;have e:a.eval (.tmp 104)=I.1:=(h.get E G (i:=10) (d:=104) (by kernel_rfl) rfl)
   exact wp_move _ _ (Or.inr B) e (bH (by decide))
  ·obtain⟨H,D,B,J⟩:=ab8
   obtain rfl:=same D rfl;have e:a.eval (.tmp 105)=.bool I.2:=(h.get E G (i:=11) (d:=105) (by kernel_rfl) rfl)
   exact wp_move _ _ (Or.inr B) e (bH (by decide))
 ·intro I listed a w h L
  obtain⟨v,y⟩:=I;obtain⟨hk,l,_⟩:=h.wd;have g:=l (L 8 (by rw[oN];omega));rw[gI 152 wV hsz h L,oN];simp only[gh,aa5,aa6,aa7,aa8,aa9,ab0,ab1,ab2,ab3,ab4,WD,WE,WG,WH];exact hQ v y w g hk
theorem iD (p:Option Addr) (n c:Nat) (bs:List UInt8) (w:World) (hn:bs.length=n) (hc:n≤c) (tN:c≤maxLen) (h:cK w p n bs):
 Calls Tryz.prog 74 #[.slice p n c] w fun e w'=>e=.returned (lB (bG bs))∧Kept ai w w':=by
 have hm:c≤9223372036854775807:=by unfold maxLen at tN;omega
 have fl:=iv;have L:=Qh hn;have H:=Qh h;clear h hn
 by_cases Vn:n=512
 ·subst Vn
  obtain⟨g,hg⟩:∃g,g=w.heap.size:=⟨_,rfl⟩
  obtain⟨R,IE⟩:∃R,R=w.alloc (.cells #[.string ⟨#[]⟩,.string ⟨#[]⟩,.int .u8 0,.int .i64 0,.int .i64 0,.int .i64 0,.int .i64 0,.int .i64 0,.bool false] 66):=⟨_,rfl⟩
  have I:Hid (Kept ai w R):=Qh (by rw[IE];exact(Kept.refl ai w).alloc _);have Bu:Hid (R.heap[g]? =some (.cells iM 66 (0,0))):=Qh (by rw[IE,hg];exact heap_alloc_new w _);have l:Hid (g<R.heap.size):=Qh (Array.getElem?_eq_some_iff.1 Bu.out).1;have MY:Hid (g=w.heap.size):=Qh hg;have T:Hid (w.heap.size≤g):=Qh (by omega)
  go_enter Tryz.func74,Tryz.ntmps74
  go_wp2_with fail
  rw[←IE,←hg];clear IE hg;refine(PK p c bs R L.out hc (by unfold maxLen;omega) (H.out.kept I.out (fun _ _ _=>id))).mono ?_;obtain⟨M,VJ⟩:∃M,M=R.heap.size:=⟨_,rfl⟩
  have Js:Hid (M=R.heap.size):=Qh VJ;rw[←VJ];clear VJ;rintro e w1 ⟨B,r,rfl,Xn,ej⟩;have Bc:=Qh Xn;have fE:=Qh ej;have lk6:(Instr.lookup 166 (.map (some B)) (.int .i64 6) false).run Tryz.prog w1=.ok (.agg #[.int .i64 148,.slice (some ⟨r 6,0,none⟩) 8 8]) w1:=Uj Xn 6 (by omega);clear Xn ej;go_wp2_with fail;refine(yY _ 8 8 (dO bs 6) w1 (Bc.out.fit 6) (Qk _) (by decide) (Bc.out.gC (i:=6) (by omega))).mono ?_;rintro e w2 ⟨rfl,bY⟩;have dr:Kept ai w1 w2:=Kept.aO bY _;have O:=Qh (Bc.out.du dr);have N:=Qh (fE.out.trans dr);have D:=Qh (N.out.some_ Bu.out id);clear bY dr lk6;rw[nN bs 6 (by omega)]
  cases Ag:bM (aA bs 6)with
  |none=>
   have E:Hid (bG bs=(ch,3)):=Qh (yE L.out (by rw[Ag];simp));rw[Ti,SK];have c0:=bJ D.out;have f0:=gj D.out;unfold iM at c0;clear Ag;go_wp2;refine bodyPost_ret (je rfl _ _ g _ rfl rfl ⟨#[]⟩ ⟨#[]⟩ 0 0 0 0 0 0 false (oO D.out _ _ _ _ _ _ _ _ _)) rfl ?_;rw[E.out]
   exact⟨rfl,(I.out.trans N.out).then (sU (Kept.refl (ay g) _) _ _ _ _ _ _ _ _ _) (fun i hi=>Or.inl (by
    have h1:i=g:=hi;rw[h1]
    exact T.out))⟩
  |some sm=>
   rw[Tj,SL];have gA:=zu (bs:=bs);have ag5:=kh bs 512;have ah0:=nW bs 512;have hpf:=kh (aA bs 6) 8;obtain⟨X,hX⟩:∃X:Int,X=(dc bs 512:Nat):=⟨_,rfl⟩
   have hS:((bN bs 512:Nat):Int) - (bN (dO bs 6) 8:Nat)+256=X:=by
    rw[nN bs 6 (by omega),hX];omega
   have HS:=Qh hS;have HX:=Qh hX;have Yb:=Qh Ag;have TT:cK w2 p 512 bs:=(H.out.kept I.out (fun _ _ _=>id)).kept N.out (fun _ _ _=>id);have bT:=Qh TT;clear gA ag5 ah0 hpf hX hS Ag TT
   by_cases W:sm=X
   ·subst W
    have o:Hid (bM (aA bs 6)=some (dc bs 512:Int)):=Qh (by rw[Yb.out,HX.out]);have hbX:(sm==sm)=true:=by simp
    go_wp2_with fail
    refine(AZ M B r (dO bs) p 512 c bs w2 (by omega) bT.out O.out).mono ?_;rintro e w2' ⟨rfl,rfl⟩;rw[HS.out];have lk9:(Instr.lookup 166 (.map (some B)) (.int .i64 9) false).run Tryz.prog w2=.ok (.agg #[.int .i64 257,.slice (some ⟨r 9,0,none⟩) 8 8]) w2:=Uj O.out 9 (by omega)
    have q:(convert 26 9 (.slice (some ⟨r 9,0,none⟩) 8 8)).run Tryz.prog w2=.ok (.string (str (aA bs 9))) w2:=by
     have:=cw (P:=Tryz.prog) (O.out.gC (i:=9) (by omega)) (O.out.fit 9) 26 5 9 Tryz.underlying26 Tryz.underlying5 Tryz.underlying9 8;rw[nN bs 9 (by omega)]at this;exact this
    by_cases hu:aA bs 9=dq
    ·have zG:Hid (aA bs 9=dq∨aA bs 9=tH):=Qh (Or.inl hu)
     have VV:=hu;rw[hu,zz]at q;clear hu;have m:Hid (sO bs=false):=Qh (by rw[sO,VV];decide);go_wp2_with fail;refine(tf M B r (dO bs) w2 O.out).mono ?_;intro e w3 y;obtain⟨A,(⟨f,Q,rfl,U⟩|⟨z,rfl⟩)⟩:=y
     ·have HT:Hid (bG bs=(jJ bs,0)):=Qh (vA L.out o.out zG.out (by rw[←mu];exact f))
      have d:=Qh (N.out.trans A);have G:=Qh (A.some_ D.out id);have Z:=Qh (O.out.du A);have Tz:=Qh U
      have t:Q≠g∧B≠g∧∀i,i<11→r i≠g:=by
       have u:=l.out;have y:=Js.out;refine⟨fun e=>?_,fun e=>?_,fun i hi e=>?_⟩
       ·obtain⟨es,clock,hb,_⟩:=U
        have h1:=G.out;rw[←e,hb]at h1
        cases h1
       ·have h1:=Z.out.lo.1
        omega
       ·have h1:=Z.out.lo.2 i hi
        omega
      have Y:=Qh t;clear t
      have Jl:Hid (∀w',Kept (ay g) w3 w'→
       (Instr.lookup 171 (.map (some Q)) (.int .i64 1) false).run Tryz.prog w'=.ok (.int .i64 (eL bs 1)) w'∧
       (Instr.lookup 171 (.map (some Q)) (.int .i64 2) false).run Tryz.prog w'=.ok (.int .i64 (eL bs 2)) w'∧
       (Instr.lookup 171 (.map (some Q)) (.int .i64 3) false).run Tryz.prog w'=.ok (.int .i64 (eL bs 3)) w'∧
       (Instr.lookup 171 (.map (some Q)) (.int .i64 4) false).run Tryz.prog w'=.ok (.int .i64 (eL bs 4)) w'∧
       (Instr.lookup 171 (.map (some Q)) (.int .i64 5) false).run Tryz.prog w'=.ok (.int .i64 (eL bs 5)) w'):=Qh (fun w' hk=>by
       have hq:=Tz.out.kept hk Y.out.1
       have J:∀i,1≤i→i≤5→(Instr.lookup 171 (.map (some Q)) (lD i) false).run Tryz.prog w'=.ok (.int .i64 (eL bs i)) w':=fun i h1 u=>
        hq.look (P:=Tryz.prog) Tryz.underlying171 Tryz.underlying170 (by rw[qL _ h1 u,nN bs i (by omega)];rfl)
       exact⟨J 1 (by omega) (by omega),J 2 (by omega) (by omega),J 3 (by omega) (by omega),J 4 (by omega) (by omega),J 5 (by omega) (by omega)⟩)
      clear A f U;go_wp2_with fail;refine wp_region_any (by kernel_rfl) (qP (w3:=w3) g M B Q r (dO bs) ⟨#[117,115,116,97,114,0,48,48]⟩ false (eL bs 1) (eL bs 2) (eL bs 3) (eL bs 4) (eL bs 5) (show 73≤73 from Qk 73) rfl rfl rfl rfl Z.out Y.out.2.1 Y.out.2.2 G.out (fun w' hk=>Jl.out w' hk) (by rw[←zz,av];decide) ?_);intro a' w' V tI TN ij jE;have hT:(jJ bs).fL=false:=m.out
      have Ux:Hid (lB (bG bs)=.tuple #[.agg #[.string (str (lG (aK (dO bs 10)) (aK (dO bs 0)) false)),.string (str (aK (dO bs 8))),.int .u8 ((yM (dO bs 7)).toNat:Int),.int .i64 (eL bs 1),.int .i64 (eL bs 2),.int .i64 (eL bs 3),.int .i64 (eL bs 5),.int .i64 (eL bs 4),.bool false],.int .i64 0]):=Qh (by
       rw[HT.out];simp only[lB,af,jJ,m.out]
       rfl)
      simp only[Exit.then]
      apply_assumption
      go_wp2;refine bodyPost_ret (je rfl _ _ g (.int .i64 0) tI TN _ _ _ _ _ _ _ _ _ ij) V ?_;rw[Ux.out]
      exact⟨rfl,(I.out.trans d.out).then jE (fun i hi=>Or.inl (by
       have h1:i=g:=hi;rw[h1]
       exact T.out))⟩
     ·have E:Hid (bG bs=(ch,4)):=Qh (yD L.out o.out zG.out (by rw[←mu];exact z))
      have d:=Qh (N.out.trans A);have G:=Qh (A.some_ D.out id);have c0:=bJ G.out;have f0:=gj G.out;unfold iM at c0;clear A z;go_wp2;refine bodyPost_ret (je rfl _ _ g _ rfl rfl ⟨#[]⟩ ⟨#[]⟩ 0 0 0 0 0 0 false (oO G.out _ _ _ _ _ _ _ _ _)) rfl ?_;rw[E.out]
      exact⟨rfl,(I.out.trans d.out).then (sU (Kept.refl (ay g) _) _ _ _ _ _ _ _ _ _) (fun i hi=>Or.inl (by
       have h1:i=g:=hi;rw[h1]
       exact T.out))⟩
    ·by_cases b:aA bs 9=tH
     ·have zG:Hid (aA bs 9=dq∨aA bs 9=tH):=Qh (Or.inr b)
      have VV:=b;rw[b,Ij]at q;clear hu b;have m:Hid (sO bs=true):=Qh (by rw[sO,VV];decide);go_wp2_with fail;refine(tf M B r (dO bs) w2 O.out).mono ?_;intro e w3 y;obtain⟨A,(⟨f,Q,rfl,U⟩|⟨z,rfl⟩)⟩:=y
      ·have HT:Hid (bG bs=(jJ bs,0)):=Qh (vA L.out o.out zG.out (by rw[←mu];exact f))
       have d:=Qh (N.out.trans A);have G:=Qh (A.some_ D.out id);have Z:=Qh (O.out.du A);have Tz:=Qh U
       have t:Q≠g∧B≠g∧∀i,i<11→r i≠g:=by
        have u:=l.out;have y:=Js.out;refine⟨fun e=>?_,fun e=>?_,fun i hi e=>?_⟩
        ·obtain⟨es,clock,hb,_⟩:=U
         have h1:=G.out;rw[←e,hb]at h1
         cases h1
        ·have h1:=Z.out.lo.1
         omega
        ·have h1:=Z.out.lo.2 i hi
         omega
       have Y:=Qh t;clear t
       have Jl:Hid (∀w',Kept (ay g) w3 w'→
        (Instr.lookup 171 (.map (some Q)) (.int .i64 1) false).run Tryz.prog w'=.ok (.int .i64 (eL bs 1)) w'∧
        (Instr.lookup 171 (.map (some Q)) (.int .i64 2) false).run Tryz.prog w'=.ok (.int .i64 (eL bs 2)) w'∧
        (Instr.lookup 171 (.map (some Q)) (.int .i64 3) false).run Tryz.prog w'=.ok (.int .i64 (eL bs 3)) w'∧
        (Instr.lookup 171 (.map (some Q)) (.int .i64 4) false).run Tryz.prog w'=.ok (.int .i64 (eL bs 4)) w'∧
        (Instr.lookup 171 (.map (some Q)) (.int .i64 5) false).run Tryz.prog w'=.ok (.int .i64 (eL bs 5)) w'):=Qh (fun w' hk=>by
        have hq:=Tz.out.kept hk Y.out.1
        have J:∀i,1≤i→i≤5→(Instr.lookup 171 (.map (some Q)) (lD i) false).run Tryz.prog w'=.ok (.int .i64 (eL bs i)) w':=fun i h1 u=>
         hq.look (P:=Tryz.prog) Tryz.underlying171 Tryz.underlying170 (by rw[qL _ h1 u,nN bs i (by omega)];rfl)
        exact⟨J 1 (by omega) (by omega),J 2 (by omega) (by omega),J 3 (by omega) (by omega),J 4 (by omega) (by omega),J 5 (by omega) (by omega)⟩)
       clear A f U;go_wp2_with fail;refine wp_region_any (by kernel_rfl) (qP (w3:=w3) g M B Q r (dO bs) ⟨#[117,115,116,97,114,32,32,0]⟩ true (eL bs 1) (eL bs 2) (eL bs 3) (eL bs 4) (eL bs 5) (show 73≤73 from Qk 73) rfl rfl rfl rfl Z.out Y.out.2.1 Y.out.2.2 G.out (fun w' hk=>Jl.out w' hk) (by rw[←Ij,av];decide) ?_);intro a' w' V tI TN ij jE;have hT:(jJ bs).fL=true:=m.out
       have Ux:Hid (lB (bG bs)=.tuple #[.agg #[.string (str (lG (aK (dO bs 10)) (aK (dO bs 0)) true)),.string (str (aK (dO bs 8))),.int .u8 ((yM (dO bs 7)).toNat:Int),.int .i64 (eL bs 1),.int .i64 (eL bs 2),.int .i64 (eL bs 3),.int .i64 (eL bs 5),.int .i64 (eL bs 4),.bool true],.int .i64 0]):=Qh (by
        rw[HT.out];simp only[lB,af,jJ,m.out]
        rfl)
       simp only[Exit.then]
       apply_assumption
       go_wp2;refine bodyPost_ret (je rfl _ _ g (.int .i64 0) tI TN _ _ _ _ _ _ _ _ _ ij) V ?_;rw[Ux.out]
       exact⟨rfl,(I.out.trans d.out).then jE (fun i hi=>Or.inl (by
        have h1:i=g:=hi;rw[h1]
        exact T.out))⟩
      ·have E:Hid (bG bs=(ch,4)):=Qh (yD L.out o.out zG.out (by rw[←mu];exact z))
       have d:=Qh (N.out.trans A);have G:=Qh (A.some_ D.out id);have c0:=bJ G.out;have f0:=gj G.out;unfold iM at c0;clear A z;go_wp2;refine bodyPost_ret (je rfl _ _ g _ rfl rfl ⟨#[]⟩ ⟨#[]⟩ 0 0 0 0 0 0 false (oO G.out _ _ _ _ _ _ _ _ _)) rfl ?_;rw[E.out]
       exact⟨rfl,(I.out.trans d.out).then (sU (Kept.refl (ay g) _) _ _ _ _ _ _ _ _ _) (fun i hi=>Or.inl (by
        have h1:i=g:=hi;rw[h1]
        exact T.out))⟩
     ·have E:Hid (bG bs=(ch,9)):=Qh (Fx L.out o.out ⟨hu,b⟩)
      have q1:((str (aA bs 9)).toList==[117,115,116,97,114,0,48,48])=false:=by rw[av];exact beq_eq_false_iff_ne.2 hu
      have q2:((str (aA bs 9)).toList==[117,115,116,97,114,32,32,0])=false:=by rw[av];exact beq_eq_false_iff_ne.2 b
      have c0:=bJ D.out;have f0:=gj D.out;unfold iM at c0;clear hu b;go_wp2;refine bodyPost_ret (je rfl _ _ g _ rfl rfl ⟨#[]⟩ ⟨#[]⟩ 0 0 0 0 0 0 false (oO D.out _ _ _ _ _ _ _ _ _)) rfl ?_;rw[E.out]
      exact⟨rfl,(I.out.trans N.out).then (sU (Kept.refl (ay g) _) _ _ _ _ _ _ _ _ _) (fun i hi=>Or.inl (by
       have h1:i=g:=hi;rw[h1]
       exact T.out))⟩
   ·have E:Hid (bG bs=(ch,3)):=Qh (yE L.out (by
     rw[Yb.out,←HX.out];intro e
     exact W (Option.some.inj e)))
    have hbX:(sm==X)=false:=by simpa using W
    have c0:=bJ D.out;have f0:=gj D.out;unfold iM at c0;go_wp2_with fail;refine(AZ M B r (dO bs) p 512 c bs w2 (by omega) bT.out O.out).mono ?_;rintro e w2' ⟨rfl,rfl⟩;rw[HS.out];go_wp2;refine bodyPost_ret (je rfl _ _ g _ rfl rfl ⟨#[]⟩ ⟨#[]⟩ 0 0 0 0 0 0 false (oO D.out _ _ _ _ _ _ _ _ _)) rfl ?_;rw[E.out]
    exact⟨rfl,(I.out.trans N.out).then (sU (Kept.refl (ay g) _) _ _ _ _ _ _ _ _ _) (fun i hi=>Or.inl (by
     have h1:i=g:=hi;rw[h1]
     exact T.out))⟩
 ·have E:Hid (bG bs=(ch,1)):=Qh (KK (by rw[L.out];exact Vn))
  have hb:((n:Int)==512)=false:=by simp;omega
  have fc:Kept ai w (w.alloc (.cells #[.string ⟨#[]⟩,.string ⟨#[]⟩,.int .u8 0,.int .i64 0,.int .i64 0,.int .i64 0,.int .i64 0,.int .i64 0,.bool false] 66)):=(Kept.refl ai w).alloc _;have I:=Qh fc;clear fc
  go_enter Tryz.func74,Tryz.ntmps74
  go_wp2;refine bodyPost_ret (je rfl _ _ w.heap.size _ rfl rfl ⟨#[]⟩ ⟨#[]⟩ 0 0 0 0 0 0 false (heap_alloc_new _ _)) rfl ?_;rw[E.out];exact⟨rfl,I.out⟩
end Head
end Go.Proofs.YtdhibldkldlfpaaGreatDoor
