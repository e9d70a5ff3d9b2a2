/- Merged. -/
import Derived.Test.YtdhibldkldlfpaaGreatDoorEmitUnpacksX11
import Derived.Deep.RegionHeldLaw
import Derived.Laws.AppendOwnNone
import Derived.Test.YtdhibldkldlfpaaGreatDoorEmitUnpacksX21
import Derived.Test.YtdhibldkldlfpaaGreatDoorEmitUnpacksX20
namespace Go.Proofs.YtdhibldkldlfpaaGreatDoor
set_option linter.unusedVariables false
set_option maxHeartbeats 16000000
set_option maxRecDepth 100000
open Go.ChangeShapes Go.WideShapes Go.ChangeAt Go.RowKit Base cb iK Go.Lib
variable {a:Act} {B g j:Nat} {o:Oper} {v:Value} {w:World}
namespace Rec
open Path
variable {rs:List (List UInt8 × List UInt8)}
def iQ (rs:List (List UInt8 × List UInt8)):List Value:=rs.flatMap fun r=>[.string (str r.1),.string (str r.2)]
theorem qt (rs:List (List UInt8 × List UInt8)):(iQ rs).length=2*rs.length:=by
 induction rs with
 |nil=>rfl
 |cons r rs ih=>simp only[iQ,List.flatMap_cons,Qf,List.length_cons,List.length_nil]at ih⊢;omega
theorem xc (rs:List (List UInt8 × List UInt8)) (k v:List UInt8):iQ (rs++[(k,v)])=iQ rs++[.string (str k),.string (str v)]:=by simp[iQ]
theorem zh (rs:List (List UInt8 × List UInt8)):∀i,i<rs.length→(iQ rs)[2*i]? =some (.string (str (rs.getD i ([],[])).1))∧(iQ rs)[2*i+1]? =some (.string (str (rs.getD i ([],[])).2)):=by
 induction rs with
 |nil=>intro i h;simp at h
 |cons r rs ih=>
  intro i h
  cases i with
  |zero=>exact⟨rfl,rfl⟩
  |succ i=>
   have:=ih i (by simpa using h);have e:iQ (r::rs)=.string (str r.1)::.string (str r.2)::iQ rs:=rfl;rw[e,show 2*(i+1)=2*i+1+1 by omega]
   simpa using this
def bG (w:World) (p:Option Addr) (n:Nat) (rs:List (List UInt8 × List UInt8)):Prop:=
 rs.length=n∧(0<n→∃b o,p=some ⟨b,o,none⟩∧b<w.heap.size∧∀i,i<n→w.cell? ⟨b,o+2*i,none⟩=some (.string (str (rs.getD i ([],[])).1))∧w.cell? ⟨b,o+2*i+1,none⟩=some (.string (str (rs.getD i ([],[])).2)))
theorem bG.below {w':World} {p:Option Addr} {n:Nat} (h:bG w p n rs) (hb:Below w.heap.size w w'):bG w' p n rs:=by
 refine⟨h.1,fun B=>?_⟩;obtain⟨b,o,rfl,A,hc⟩:=h.2 B;refine⟨b,o,rfl,Nat.lt_of_lt_of_le A hb.size,fun i hi=>⟨?_,?_⟩⟩
 ·rw[hb.cell (p:=⟨b,o+2*i,none⟩) A];exact(hc i hi).1
 ·rw[hb.cell (p:=⟨b,o+2*i+1,none⟩) A];exact(hc i hi).2
theorem ru {base:Nat} {e:TypeId} (h:w.ownsRow base e 2 v rs.length (iQ rs)):∃p c,v=.slice p rs.length c∧rs.length≤c∧c≤maxLen∧bG w p rs.length rs:=by
 rcases h.2 with⟨rfl,A⟩|⟨g,cap,cur,rfl,hb,hg,hn,hc,hs,ht⟩
 ·exact⟨none,0,by rw[A],by omega,by decide,rfl,fun h=>by omega⟩
 ·refine⟨some ⟨g,0,none⟩,cap,rfl,hn,hc,rfl,fun A=>⟨g,0,rfl,(Array.getElem?_eq_some_iff.1 hg).1,fun i hi=>?_⟩⟩
  have get:∀j,j<2*rs.length→w.cell? ⟨g,j,none⟩=(iQ rs)[j]? :=fun j B=>by
   unfold World.cell?;rw[hg,←ht,List.getElem?_take,if_pos (by omega)];simp
  obtain⟨g1,g2⟩:=zh rs i hi;rw[Nat.zero_add];exact⟨by rw[get _ (by omega)];exact g1,by rw[get _ (by omega)];exact g2⟩
theorem BB:(Tryz.prog.info? 121).map (fun i=>(i.zero,i.size,i.bytes))=some (some (.agg #[.string ⟨#[]⟩,.string ⟨#[]⟩]),2,32):=by kernel_rfl
theorem xW (l:List UInt8):∀k,k≤l.length→(∀j,j<k→aN (l.getD j 0)=true)→(k=l.length∨aN (l.getD k 0)=false)→jd l=k:=by
 unfold jd
 induction l with
 |nil=>intro k h _ _;simp at h;simp[h]
 |cons b l ih=>
  intro k hk hd he
  cases k with
  |zero=>
   rcases he with h|h
   ·simp at h
   ·rw[List.takeWhile_cons,show aN b=false from h];rfl
  |succ k=>
   have A:aN b=true:=hd 0 (by omega);rw[List.takeWhile_cons,A,if_pos rfl,List.length_cons,ih k (by simpa using hk) (fun j B=>by simpa using hd (j+1) (by omega)) (by simpa using he)]
theorem ah3 (l:List UInt8):∀b∈l.takeWhile aN,aN b=true:=by
 induction l with
 |nil=>simp
 |cons c l ih=>
  intro b A;rw[List.takeWhile_cons]at A;split at A
  ·next h=>
   rcases List.mem_cons.1 A with rfl|h1
   ·exact h
   ·exact ih b h1
  ·cases A
theorem zc (l:List UInt8):jd l≤l.length∧∀b∈l.take (jd l),aN b=true:=by
 unfold jd;have B:l.takeWhile aN<+:l:=List.takeWhile_prefix _;refine⟨B.length_le,fun b A=>?_⟩;rw[←List.prefix_iff_eq_take.1 B]at A;exact ah3 l b A
theorem uc {P:Program} {ops:Array Oper} {K:Act→World→Prop} {Q:Exit→Act→World→Prop} {E:Prop} (hw:Region.wanted o (yielded ops a.tmps)=true) (s x:Operand) (t:TypeId)
 (ho:o.op=.call {callee:=.builtin .append,args:=#[s,x],argTypes:=#[t,t]})
 (base:Nat) (e:TypeId) (i:TypeInfo) (z:Value) (size bytes:Nat) (ht:P.underlying t=some (.slice e)) (hi:P.info? e=some i) (hz:i.zero=some z)
 (kl:i.size=size) (sa:i.bytes=bytes) (Yl:z.cells.size=size) (hsz:0<size)
 (v:Value) (n:Nat) (xs:List Value) (hs:a.eval s=v) (aK:w.ownsRow base e size v n xs)
 (ad:Addr) (m c:Nat) (news:List Value) (hx:a.eval x=.slice (some ad) m c) (hl:news.length=m*size) (uG:∀j u,news[j]? =some u→w.cell? (ad.add j)=some u) (h1:∀u∈news,u.oneCell'=true)
 (XY:n+m≤maxLen) (tw:(n+m)*bytes≤140737488355328) (jx:base≤w.heap.size)
 (h:∀v' w',w'.ownsRow base e size v' (n+m) (xs++news)→w.grownBy w' v.ownBlock→(v'=.slice none 0 0↔v=.slice none 0 0∧m=0)→K (a.put o.dst v') w'):
 if Region.wanted o (yielded ops a.tmps)=true then Oper.wp P o a w K Q else E:=by
 rw[if_pos hw];exact wp_append_own w s x t ho base e i z size bytes ht hi hz kl sa Yl hsz v n xs hs aK ad m c news hx hl uG h1 XY tw jx h
end Rec
namespace Rec
theorem EU (a b:List (List UInt8 × List UInt8)):iQ (a++b)=iQ a++iQ b:=by simp[iQ]
theorem EV (rs:List (List UInt8 × List UInt8)):∀u∈iQ rs,u.oneCell'=true:=by
 intro u hu;obtain⟨r,_,hr⟩:=List.mem_flatMap.1 hu;rcases List.mem_cons.1 hr with rfl|hr
 ·rfl
 ·rcases List.mem_cons.1 hr with rfl|hr
  ·rfl
  ·cases hr
theorem II {P:Program} {ops:Array Oper} {rest:List Oper} {Q:Exit→Act→World→Prop} (vI:o.guard=none) (s x:Operand) (t:TypeId)
 (ho:o.op=.call {callee:=.builtin .append,args:=#[s,x],argTypes:=#[t,t]})
 (base:Nat) (e:TypeId) (i:TypeInfo) (z:Value) (ht:P.underlying t=some (.slice e)) (hi:P.info? e=some i) (hz:i.zero=some z) (kl:i.size=2) (sa:i.bytes=32) (Yl:z.cells.size=2)
 (v:Value) (n:Nat) (xs:List (List UInt8 × List UInt8)) (hs:a.eval s=v) (aK:w.ownsRow base e 2 v n (iQ xs))
 (p:Option Addr) (m c:Nat) (rs:List (List UInt8 × List UInt8)) (hx:a.eval x=.slice p m c) (hb:bG w p m rs) (qy:(n+m)*32≤140737488355328) (jx:base≤w.heap.size)
 (h:∀v' w',w'.ownsRow base e 2 v' (n+m) (iQ (xs++rs))→w.grownBy w' v.ownBlock→wpList P ops Q rest (a.put o.dst v') w'):wpList P ops Q (o::rest) a w:=by
 have hl:=hb.1;rcases p with _|ad
 ·have hm:m=0:=by
   rcases Nat.eq_zero_or_pos m with h0|h0
   ·exact h0
   ·obtain⟨_,_,he,_⟩:=hb.2 h0
    cases he
  subst hm;obtain rfl:rs=[]:=List.eq_nil_of_length_eq_zero hl
  have E:(Builtin.append_ #[t,t] o.type #[v,.slice none 0 c]).run P w=.ok v w:=by
   rcases aK.2 with⟨rfl,rfl⟩|⟨g,cap,cur,rfl,_,_,Jo,_⟩
   ·simp[Builtin.append_,run_underlying ht,sizeOf,typeInfo,hi,Builtin.lenOf,Builtin.firstCells]
   ·simp[Builtin.append_,run_underlying ht,sizeOf,typeInfo,hi,Builtin.lenOf,Builtin.firstCells,Jo,storeCells]
  refine wpList_plain vI fun K D=>?_
  unfold Oper.wp;simp[execOp,ho,resolve,invoke,builtin,hs,hx,E,Result.andThen];exact D _ _ (h v w (by simpa using aK) (World.grownBy.refl w _))
 ·refine wpList_append_own w vI s x t ho base e i z 2 32 ht hi hz kl sa Yl (by decide) v n (iQ xs) hs aK ad m c (iQ rs) hx (by rw[qt,hl];omega) ?_ (EV rs) (by unfold maxLen;omega) qy jx ?_
  ·intro j u A
   have G:j<2*m:=by
    have:=(List.getElem?_eq_some_iff.1 A).1;rw[qt,hl]at this;exact this
   obtain⟨b,off,he,_,hc⟩:=hb.2 (by omega)
   cases he
   obtain⟨c0,c1⟩:=hc (j / 2) (by omega);obtain⟨g0,g1⟩:=zh rs (j / 2) (by omega);rw[WideShapes.add_plain];rcases Nat.mod_two_eq_zero_or_one j with Ao|Ao
   ·have e:j=2*(j / 2):=by omega
    rw[e]at A;rw[g0]at A
    cases A
    rw[show off+j=off+2*(j / 2) by omega];exact c0
   ·have e:j=2*(j / 2)+1:=by omega
    rw[e]at A;rw[g1]at A
    cases A
    rw[show off+j=off+2*(j / 2)+1 by omega];exact c1
  ·intro v' w' h1 B _
   rw[←EU]at h1;exact h v' w' h1 B
end Rec
namespace Head
open Hp Go.Proofs.YtdhibldkldlfpaaGreatDoor.Mp
variable {R:Nat} {todo:Nat→Bool} {a b:Nat→List UInt8} {f:Nat→Option Value}
theorem q7 {bs:List UInt8} (h:oY w B R f todo) (hr:kU w g bs):g≠B∧g≠R:=by
 obtain⟨es,clock,since,seen,c0,D,hs,h1,E,A,_⟩:=h;unfold kU at hr;refine⟨fun e=>?_,fun e=>?_⟩
 ·rw[e,D]at hr;cases hr
 ·rw[e,A]at hr;cases hr
theorem OO (h:oY w B R f todo) (e:B=R):False:=by
 obtain⟨es,clock,since,seen,c0,D,hs,h1,E,A,_⟩:=h;rw[←e,D]at A
 cases A
def ri (todo:Nat→Bool) (a b:Nat→List UInt8):Nat→List UInt8:=fun i=>if todo i=true then a i else b i
theorem JO (ha:Fits a) (hb:Fits b):Fits (ri todo a b):=fun i=>by
 unfold ri;split
 ·exact ha i
 ·exact hb i
theorem JN (ha:Fits a) (hb:Fits b) (h:∀i,i<11→todo i=false):ri todo a b=b:=
 I8 (JO ha hb) hb fun i hi=>by unfold ri;rw[if_neg (by simp[h i hi])]
theorem CT (j:Nat):KO (ri todo a b) j (b j)=ri (fun z=>todo z&&z != j) a b:=by
 funext i
 by_cases hi:i=j
 ·subst hi
  rw[vu,ri,if_neg (by simp)]
 ·rw[qL _ _ hi,ri,ri]
  have:(i != j)=true:=by simpa using hi
  simp[this]
theorem Fu (r:Nat→Nat):∀j v,qe r j=some v→v=jr r j:=fun j v h=>by
 unfold qe at h;split at h
 ·exact(Option.some.inj h).symm
 ·cases h
theorem JZ {r:Nat→Nat} (h:qe r j=some v):j<11:=by
 unfold qe at h;split at h
 ·assumption
 ·cases h
theorem Mn:(Tryz.prog.info? 5).map (·.size)=some 1:=by kernel_rfl
theorem rT {old cs:List UInt8} (h:cs.length=old.length):nN old cs=cs:=by
 simp[nN,List.drop_eq_nil_of_le (show old.length≤cs.length by omega)]
theorem pr (lo B:Nat) (r:Nat→Nat) (own:Nat→List UInt8) (i:Nat) (s:ByteArray) (w:World) (hi:i<11) (hP:bB w lo B r own):
 Calls Tryz.prog 159 #[.map (some B),.int .i64 (i:Int),.string s] w fun e w'=>e=.returned (.tuple #[])∧bB w' lo B r (KO own i (nN (own i) (s.data.toList.take (aq i))))∧Kept (aA (r i)) w w'∧w'.heap.size=w.heap.size:=by
 have H:=pb
 have I:(Instr.lookup 166 (.map (some B)) (.int .i64 (i:Int)) false).run Tryz.prog w=.ok (.agg #[.int .i64 (nH i),.slice (some ⟨r i,0,none⟩) (aq i) (aq i)]) w:=
  hP.map.look (P:=Tryz.prog) Tryz.underlying166 Tryz.underlying170 (x:=i) (v:=jr r i) (by unfold qe;rw[if_pos hi])
 have A:=hP.fit i;have D:=Qh hP;obtain⟨cs,hcs⟩:∃cs,cs=s.data.toList.take (aq i):=⟨_,rfl⟩
 have E:cs.length≤aq i:=by rw[hcs,Qg];omega
 have HC:=Qh hcs;rw[←hcs];clear hP hcs
 go_enter Tryz.func159,Tryz.ntmps159
 go_wp2_with (first|(refine Ig rfl _ _ 26 9 rfl 5 Tryz.underlying26 Mn (some ⟨r i,0,none⟩) (aq i) (aq i) s rfl rfl (r i) 0 (own i) (D.out.row i hi) cs HC.out (fun _=>rfl) (by rw[Nat.zero_add,A];exact E) ?_;intro J G hk hs)|go_in)
 refine bodyPost_end (results_none rfl _ _ _) rfl ?_;refine⟨rfl,D.out.wrote hi hk (by rw[Dg (by rw[A];exact E)];exact A) ?_,hk,hs⟩;rw[←vf];exact G.out
theorem VR (p:Option Addr) (c:Nat) (bs:List UInt8) (w:World) (hn:bs.length=512) (hc:512≤c) (hm:c≤maxLen) (h:iC w p 512 bs):
 Calls Tryz.prog 101 #[.slice p 512 c] w fun e w'=>∃B r,e=.returned (.map (some B))∧bB w' w.heap.size B r (jG bs)∧Kept ag w w':=by
 unfold maxLen at hm;obtain⟨b,o,rfl,pL,_⟩:=h.cell (k:=0) (by omega);have H:=Qh h;have W:=Qh hn;clear h hn
 go_enter Tryz.func101,Tryz.ntmps101
 go_wp2_with fail
 refine(EG w).mono ?_;rintro e w1 ⟨B,r,rfl,A,hk⟩;have HP:=Qh A;have HK:=Qh hk;clear A hk;obtain⟨R,m⟩:∃R,R=w1.heap.size:=⟨_,rfl⟩
 go_wp2_with (first|(at_range;refine pG rfl _ rfl Tryz.underlying166 B HP.out.map (fun _=>true) (fun _ _ _=>rfl) rfl R m ?_;intro w2 HI u Bw)|go_in)
 have Gb:=Qh (HP.out.jq u.out);have ox:=Qh (HK.out.trans u.out);have Im:Hid (w.heap.size≤R):=Qh (by rw[m];exact HK.out.size);clear u Bw m
 try go_frame
 go_loopw [9] (fun _ wr=>∃todo,Hid (oY wr B R (qe r) todo)∧Hid (bB wr w.heap.size B r (ri todo oh (jG bs)))∧Hid (Kept ag w wr)) (fun _ wr=>wr.rangeLeft B R)
 case atStart=>exact⟨fun _=>true,HI,by
  have e:ri (fun _=>true) oh (jG bs)=oh:=by funext i;exact if_pos rfl
  rw[e];exact Gb,ox⟩
 case round=>
  obtain⟨todo,O,A,hK⟩:=hrel
  go_wp2_with (at_next;refine qB rfl _ rfl B R todo (jr r) (Fu r) rfl O.out ?_ ?_)
  ·intro hd
   have D:∀i,i<11→todo i=false:=fun i hi=>hd i (jr r i) (by unfold qe;rw[if_pos hi])
   have HD:=Qh (JN (todo:=todo) tW (Na W.out) D);clear hd D;go_wp2;go_ret;refine⟨B,r,rfl,?_,hK.out⟩;rw[←HD.out];exact A.out
  ·intro j w3 v E Yj NS Pp Bf Cw X6
   have E:=JZ E;have f:(Instr.entry (.pointer (some ⟨R,0,none⟩))).run Tryz.prog w3=.ok (.tuple #[.int .i64 (j:Int),.agg #[.int .i64 (nH j),.slice (some ⟨r j,0,none⟩) (aq j) (aq j)]]) w3:=X6;have hw:=sS E;have rD:=uD E;have J:=Qh E;clear X6;go_wp2_with fail;obtain⟨w4,U⟩:∃w4,w4=w3.alloc (.cells #[.int .i64 (nH j),.slice (some ⟨r j,0,none⟩) (aq j) (aq j)] 169):=⟨_,rfl⟩
   have tz:Kept ag w3 w4:=by rw[U];exact(Kept.refl _ _).alloc _
   have N:w4.heap[wr.heap.size]? =some (.cells #[.int .i64 (nH j),.slice (some ⟨r j,0,none⟩) (aq j) (aq j)] 169 (0,0)):=by rw[U,←Cw];exact heap_alloc_new _ _
   rw[←U];have q:w4.drew.cell? ⟨wr.heap.size,0,none⟩=some (.int .i64 (nH j)):=bC (w:=w4) N 0;have nI:w4.drew.cell? ⟨wr.heap.size,1,none⟩=some (.slice (some ⟨r j,0,none⟩) (aq j) (aq j)):=bC (w:=w4) N 1;have Y:Kept (aA R) wr w4.drew:=Bf.out.trans (tz.drew.kC _);have om:=q7 O.out (A.out.row j E);have M:=A.out.kept Y (fun e=>OO O.out e) (fun i hi e=>(q7 O.out (A.out.row i hi)).2 e)
   have G:=hK.out.then Y (fun i hi=>Or.inl (by
    have h1:i=R:=hi;rw[h1]
    exact Im.out))
   have X:=NS.out.kept (tz.drew) id id;have V:(aj bs j).length=aq j:=iG W.out E;have bM:=M.row j E
   have GO:iC w4.drew (some ⟨b,o+nH j,none⟩) (aj bs j).length (aj bs j):=by
    have h1:=(H.out.below (G.below (Qk _) (fun k hk=>hk.elim))).drop (k:=nH j) (c:=c) (by omega) (by omega) W.out;rw[if_neg (by omega)]at h1;have g:=h1.take (k:=aq j) (by omega);rw[V]
    simpa [WideShapes.add_plain,aj]using g
   have Z0:((ri todo oh (jG bs)) j).length=aq j:=M.fit j;have NV:=Qh M;have Bg:=Qh G;have NT:=Qh X;have T:=Qh om;have Gc:=Qh bM;have d:=Qh GO;have L:=Qh V;have I:=Qh Z0;have Z:=Qh N;have Eb:Hid (w4.drew.rangeLeft B R<wr.rangeLeft B R):=Qh (by rw[X.2];exact Pp.out);clear Y om M G X V bM GO Z0 N tz U f
   go_region_held_law (fun w'=>w'.cell? ⟨wr.heap.size,0,none⟩=some (.int .i64 (nH j))∧w'.cell? ⟨wr.heap.size,1,none⟩=some (.slice (some ⟨r j,0,none⟩) (aq j) (aq j))) (first|exact⟨q,nI⟩|exact t)
    (first
     |(refine DD rfl _ _ 26 26 rfl 5 Tryz.underlying26 Mn (some ⟨r j,0,none⟩) (some ⟨b,o+nH j,none⟩) (aq j) (aq j) (512 - nH j) (c - nH j) rfl rfl (r j) 0 (ri todo oh (jG bs) j) Gc.out (aj bs j)
        (by rw[L.out];exact(Nat.min_eq_right (by omega)).symm) (fun _=>rfl) d.out (by rw[L.out,I.out];omega) ?_
       intro w5 UJ y yM;have Uz:=Qh y
       have t:w5.cell? ⟨wr.heap.size,0,none⟩=some (.int .i64 (nH j))∧w5.cell? ⟨wr.heap.size,1,none⟩=some (.slice (some ⟨r j,0,none⟩) (aq j) (aq j)):=by
        have h5:w5.heap[wr.heap.size]? =_:=y.some_ (show w4.drew.heap[wr.heap.size]? =_ from Z.out) (fun e=>by
         have h1:wr.heap.size=r j:=e;have g:=(A.out.row j J.out).lt
         omega)
        exact⟨bC h5 0,bC h5 1⟩
       clear y))
   simp only[List.getElem_toArray,List.getElem_cons_succ,List.getElem_cons_zero]
   go_frame
   go_wp2;go_roundw
   case rel=>
    have hk:=Uz.out;have Yd:=NV.out.lo.2 j J.out
    refine⟨fun z=>todo z&&z != j,Qh (NT.out.1.kept hk (fun e=>T.out.1 (Eq.symm e)) (fun e=>T.out.2 (Eq.symm e))).1,Qh ?_,Qh (Bg.out.then hk (fun i hi=>Or.inl (by
     have h1:i=r j:=hi;rw[h1]
     exact Yd)))⟩
    have hw:=NV.out.wrote J.out hk (l:=aj bs j) L.out (by
     have h1:=UJ.out
     rwa [vf,rT (by rw[L.out,I.out])]at h1)
    have e:=CT (todo:=todo) (a:=oh) (b:=jG bs) j;rw[show jG bs j=aj bs j by unfold jG;rw[if_pos J.out]]at e;rw[e]at hw;exact hw
   case measure=>
    have hk:=Uz.out;have h1:=(NT.out.1.kept hk (fun e=>T.out.1 (Eq.symm e)) (fun e=>T.out.2 (Eq.symm e))).2;have g:=Eb.out;omega
theorem EH (lo B:Nat) (r:Nat→Nat) (own:Nat→List UInt8) (w:World) (WG:bB w lo B r own):
 Calls Tryz.prog 161 #[.map (some B)] w fun e w'=>∃g,e=.returned (.slice (some ⟨g,0,none⟩) 512 512)∧kU w' g (iY own)∧w.heap.size≤g∧Kept ag w w':=by
 obtain⟨i0,WM,kh,jS,jU⟩:=info_parts qZ;have KE:=Qh WM;have rC:=Qh kh;have pX:=Qh jS;have pD:=Qh jU;have X:=Qh WG;have Wx:Hid (B<w.heap.size∧∀i,i<11→r i<w.heap.size):=Qh ⟨WG.map.lt,fun i hi=>(WG.row i hi).lt⟩;clear WM kh jS jU WG
 go_enter Tryz.func161,Tryz.ntmps161
 go_wp2_with (at_make;refine wpList_make_full _ rfl _ _ 26 rfl w.heap.size 5 i0 (.int .u8 0) 1 Tryz.underlying26 KE.out rC.out pX.out .i64 .i64 _ _ 512 rfl rfl rfl rfl (by rw[pD.out];omega) (by decide) (Qk _) ?_)
 intro w1 aK aU;have J:=VZ aK;rw[←IM]at J;have t:Kept ag w w1:=(Kept.refl ag w).grown aU (fun k hk=>by cases hk);obtain⟨g,hg⟩:∃g,g=w.heap.size:=⟨_,rfl⟩
 rw[←hg]at J⊢;have Pq:=Qh (X.out.jq t);have f:=Qh J;have nQ:=Qh t;have A:Hid (w.heap.size≤g):=Qh (by omega);clear aK aU J t;obtain⟨R,o⟩:∃R,R=w1.heap.size:=⟨_,rfl⟩
 go_wp2_with (first|(at_range;refine pG rfl _ rfl Tryz.underlying166 B Pq.out.map (fun _=>true) (fun _ _ _=>rfl) rfl R o ?_;intro w2 HI T Bw)|go_in)
 have ox:=Qh (nQ.out.trans T.out);have Gb:=Qh (Pq.out.jq T.out);have l:=Qh (f.out.kept T.out id);have Im:Hid (w.heap.size≤R):=Qh (by rw[o];exact nQ.out.size);clear T Bw o hg
 try go_frame
 go_loopw [9] (fun _ wr=>∃todo,Hid (oY wr B R (qe r) todo)∧Hid (bB wr lo B r own)∧Hid (kU wr g (iY (ri todo oh own)))∧Hid (Kept ag w wr)) (fun _ wr=>wr.rangeLeft B R)
 case atStart=>exact⟨fun _=>true,HI,Gb,by
  have e:ri (fun _=>true) oh own=oh:=by funext i;exact if_pos rfl
  rw[e];exact l,ox⟩
 case round=>
  obtain⟨todo,O,H,N,hK⟩:=hrel
  go_wp2_with (at_next;refine qB rfl _ rfl B R todo (jr r) (Fu r) rfl O.out ?_ ?_)
  ·intro hd
   have D:∀i,i<11→todo i=false:=fun i hi=>hd i (jr r i) (by unfold qe;rw[if_pos hi])
   have HD:=Qh (JN (todo:=todo) tW H.out.fit D);clear hd D;go_wp2;go_ret;refine⟨g,rfl,?_,A.out,hK.out⟩;rw[←HD.out];exact N.out
  ·intro j w3 v E Yj NS Pp Bf Cw X6
   have E:=JZ E;have d:(Instr.entry (.pointer (some ⟨R,0,none⟩))).run Tryz.prog w3=.ok (.tuple #[.int .i64 (j:Int),.agg #[.int .i64 (nH j),.slice (some ⟨r j,0,none⟩) (aq j) (aq j)]]) w3:=X6;have hw:=sS E;have rD:=uD E;have HJ:=Qh E;clear X6;go_wp2_with fail;obtain⟨w4,V⟩:∃w4,w4=w3.alloc (.cells #[.int .i64 (nH j),.slice (some ⟨r j,0,none⟩) (aq j) (aq j)] 169):=⟨_,rfl⟩
   have tz:Kept ag w3 w4:=by rw[V];exact(Kept.refl _ _).alloc _
   have L:w4.heap[wr.heap.size]? =some (.cells #[.int .i64 (nH j),.slice (some ⟨r j,0,none⟩) (aq j) (aq j)] 169 (0,0)):=by rw[V,←Cw];exact heap_alloc_new _ _
   rw[←V];have p:w4.drew.cell? ⟨wr.heap.size,0,none⟩=some (.int .i64 (nH j)):=bC (w:=w4) L 0;have nI:w4.drew.cell? ⟨wr.heap.size,1,none⟩=some (.slice (some ⟨r j,0,none⟩) (aq j) (aq j)):=bC (w:=w4) L 1;have M:Kept (aA R) wr w4.drew:=Bf.out.trans (tz.drew.kC _);have u:=q7 O.out N.out;have Z:=H.out.kept M (fun e=>OO O.out e) (fun i hi e=>(q7 O.out (H.out.row i hi)).2 e)
   have G:=hK.out.then M (fun i hi=>Or.inl (by
    have h1:i=R:=hi;rw[h1]
    exact Im.out))
   have Y:=NS.out.kept (tz.drew) id id;have W:(own j).length=aq j:=H.out.fit j;have bM:kU w4.drew g (iY (ri todo oh own)):=N.out.kept M (fun e=>u.2 e)
   have GO:iC w4.drew (some ⟨r j,0,none⟩) (own j).length (own j):=by
    rw[W];exact Z.nB E
   have NV:=Qh Z;have Bg:=Qh G;have NT:=Qh Y;have U:=Qh u;have Gc:=Qh bM;have c:=Qh GO;have I:=Qh W;have b:=Qh L;have Iu:Hid (Fits (ri todo oh own)):=Qh (JO tW H.out.fit);have Eb:Hid (w4.drew.rangeLeft B R<wr.rangeLeft B R):=Qh (by rw[Y.2];exact Pp.out);clear M u Z G Y W bM GO L tz V d
   go_region_held_law (fun w'=>w'.cell? ⟨wr.heap.size,0,none⟩=some (.int .i64 (nH j))∧w'.cell? ⟨wr.heap.size,1,none⟩=some (.slice (some ⟨r j,0,none⟩) (aq j) (aq j))) (first|exact⟨p,nI⟩|exact q)
    (first
     |(refine DD rfl _ _ 26 26 rfl 5 Tryz.underlying26 Mn (some ⟨g,nH j,none⟩) (some ⟨r j,0,none⟩) (512 - nH j) (512 - nH j) (aq j) (aq j) rfl rfl g (nH j) (iY (ri todo oh own)) Gc.out (own j)
        (by rw[I.out];exact(Nat.min_eq_left (by omega)).symm) (fun _=>rfl) c.out (by rw[I.out,iE];omega) ?_
       intro w5 UJ y yM;have Uz:=Qh y
       have q:w5.cell? ⟨wr.heap.size,0,none⟩=some (.int .i64 (nH j))∧w5.cell? ⟨wr.heap.size,1,none⟩=some (.slice (some ⟨r j,0,none⟩) (aq j) (aq j)):=by
        have h5:w5.heap[wr.heap.size]? =_:=y.some_ (show w4.drew.heap[wr.heap.size]? =_ from b.out) (fun e=>by
         have h1:wr.heap.size=g:=e;have m:=N.out.lt
         omega)
        exact⟨bC h5 0,bC h5 1⟩
       clear y))
   simp only[List.getElem_toArray,List.getElem_cons_succ,List.getElem_cons_zero]
   go_frame
   go_wp2;go_roundw
   case rel=>
    have hk:=Uz.out
    refine⟨fun z=>todo z&&z != j,Qh (NT.out.1.kept hk (fun e=>U.out.1 (Eq.symm e)) (fun e=>U.out.2 (Eq.symm e))).1,Qh (NV.out.kept hk (fun e=>?_) (fun i hi e=>?_)),Qh ?_,Qh (Bg.out.then hk (fun i hi=>Or.inl (by
     have h1:i=g:=hi;rw[h1]
     exact A.out)))⟩
    ·have h1:B=g:=e
     have m:=Wx.out.1;have h3:=A.out;omega
    ·have h1:r i=g:=e
     have m:=Wx.out.2 i hi;have h3:=A.out;omega
    ·have h1:=UJ.out
     rw[El Iu.out HJ.out (by rw[I.out];exact Qk _),rT (by rw[I.out,Iu.out j]),CT]at h1;exact h1
   case measure=>
    have hk:=Uz.out;have h1:=(NT.out.1.kept hk (fun e=>U.out.1 (Eq.symm e)) (fun e=>U.out.2 (Eq.symm e))).2;have m:=Eb.out;omega
end Head
namespace Head
open Hp Go.Proofs.YtdhibldkldlfpaaGreatDoor.Mp Fp Go.Proofs.YtdhibldkldlfpaaGreatDoor.Field
variable {own:Nat→List UInt8}
def tI (vw:Nat→Int):Nat→Option Value:=fun i=>if 1≤i∧i≤5 then some (.int .i64 (vw i))else none
theorem JU (vw:Nat→Int):∀j v,tI vw j=some v→v=.int .i64 (vw j):=fun j v h=>by
 unfold tI at h;split at h
 ·exact(Option.some.inj h).symm
 ·cases h
theorem O1 {vw:Nat→Int} (h:tI vw j=some v):1≤j∧j≤5:=by
 unfold tI at h;split at h
 ·assumption
 ·cases h
theorem yt (vw:Nat→Int) (h1:1≤j) (h2:j≤5):tI vw j=some (.int .i64 (vw j)):=by
 unfold tI;rw[if_pos ⟨h1,h2⟩]
theorem wH (n l:ByteArray) (k m u g t z:Int) (j7:Bool) (vw:Nat→Int) (h1:vw 1=m) (h2:vw 2=u) (h3:vw 3=g) (h4:vw 4=z) (h5:vw 5=t) (w:World):
 Calls Tryz.prog 138 #[.agg #[.string n,.string l,.int .u8 k,.int .i64 m,.int .i64 u,.int .i64 g,.int .i64 t,.int .i64 z,.bool j7]] w fun e w'=>∃N,e=.returned (.map (some N))∧rE w' N (tI vw)∧w.heap.size≤N∧Kept ag w w':=by
 obtain⟨O,hO⟩:∃O,O=Obj.cells #[.string n,.string l,.int .u8 k,.int .i64 m,.int .i64 u,.int .i64 g,.int .i64 t,.int .i64 z,.bool j7] 66:=⟨_,rfl⟩
 have D:=zr (w.alloc O);rw[World.size_alloc,hO]at D;have q:=Qh D;have E:((w.alloc O).alloc (.map #[] 0)).heap[w.heap.size]? =some O:=((Kept.refl ag (w.alloc O)).alloc (.map #[] 0)).some_ (heap_alloc_new w O) id;have J:Kept ag w ((w.alloc O).alloc (.map #[] 0)):=((Kept.refl ag w).alloc O).alloc _;rw[hO]at E J;have f:=Qh E;have pB:=Qh J;clear D E J hO
 have off:¬aA (w.heap.size+1) w.heap.size:=fun e=>by
  have:w.heap.size=w.heap.size+1:=e;omega
 have A:=Qh off
 have lo:∀i,aA (w.heap.size+1) i→w.heap.size≤i∨ag i:=fun i hi=>Or.inl (by
  have:i=w.heap.size+1:=hi
  omega)
 have B:=Qh lo;clear off lo;have mm:=@run_makeMap Tryz.prog
 go_enter Tryz.func138,Tryz.ntmps138
 go_wp2_with (refine kg rfl _ _ _ (Or.inr rfl) Tryz.underlying171 Tryz.underlying170 (w.heap.size+1) q.out rfl 1 rfl rfl (.int .i64 m) rfl ?_)
 intro w1 qf H we;have R:=Qh (H.out.some_ f.out A.out);have o:=Qh (pB.out.then H.out B.out);have c:=bC R.out 4;clear H we
 go_wp2_with (refine kg rfl _ _ _ (Or.inr rfl) Tryz.underlying171 Tryz.underlying170 (w.heap.size+1) qf.out rfl 2 rfl rfl (.int .i64 u) rfl ?_)
 intro w2 d I X;have M:=Qh (I.out.some_ R.out A.out);have r:=Qh (o.out.then I.out B.out);have c5:=bC M.out 5;clear I X c
 go_wp2_with (refine kg rfl _ _ _ (Or.inr rfl) Tryz.underlying171 Tryz.underlying170 (w.heap.size+1) d.out rfl 3 rfl rfl (.int .i64 g) rfl ?_)
 intro w3 p G Y;have T:=Qh (G.out.some_ M.out A.out);have V:=Qh (r.out.then G.out B.out);have c6:=bC T.out 6;clear G Y c5
 go_wp2_with (refine kg rfl _ _ _ (Or.inr rfl) Tryz.underlying171 Tryz.underlying170 (w.heap.size+1) p.out rfl 5 rfl rfl (.int .i64 t) rfl ?_)
 intro w4 vS L b;have si:=Qh (L.out.some_ T.out A.out);have W:=Qh (V.out.then L.out B.out);have c7:=bC si.out 7;clear L b c6
 go_wp2_with (refine kg rfl _ _ _ (Or.inr rfl) Tryz.underlying171 Tryz.underlying170 (w.heap.size+1) vS.out rfl 4 rfl rfl (.int .i64 z) rfl ?_)
 intro w5 qD U yM;have Z:=Qh (W.out.then U.out B.out);clear U yM c7;go_wp2;go_ret;refine⟨_,rfl,?_,by omega,Z.out⟩
 have e:(tI vw)=fun y=>if y=4 then some (Value.int .i64 z)else if y=5 then some (Value.int .i64 t)else if y=3 then some (Value.int .i64 g)else if y=2 then some (Value.int .i64 u)else if y=1 then some (Value.int .i64 m)else none:=by
  funext y
  unfold tI
  match y with
  |0=>rfl
  |1=>rw[h1];rfl
  |2=>rw[h2];rfl
  |3=>rw[h3];rfl
  |4=>rw[h4];rfl
  |5=>rw[h5];rfl
  |y+6=>rw[if_neg (by omega),if_neg (by omega),if_neg (by omega),if_neg (by omega),if_neg (by omega),if_neg (by omega)]
 rw[e];exact qD.out
def yu (own:Nat→List UInt8):Bool:=(List.range 5).all fun i=>BF (aY (own (i+1)))
theorem vM:yu own=true↔∀i,1≤i→i≤5→BF (aY (own i))=true:=by
 unfold yu;rw[List.all_eq_true];constructor
 ·intro h i h1 A
  have:=h (i - 1) (List.mem_range.2 (by omega))
  rwa [show i - 1+1=i by omega]at this
 ·intro h i hi
  have:=List.mem_range.1 hi;exact h (i+1) (by omega) (by omega)
def Tr (w:World) (own:Nat→List UInt8) (e:Ending) (w':World):Prop:=
 Kept ag w w'∧((yu own=true∧∃Q,e=.returned (.tuple #[.map (some Q),.bool true])∧rE w' Q (tI fun i=>tU (aY (own i))))∨(yu own=false∧e=.returned (.tuple #[.map none,.bool false])))
theorem Aw (lo B:Nat) (r:Nat→Nat) (own:Nat→List UInt8) (w:World) (WG:bB w lo B r own):
 Calls Tryz.prog 104 #[.map (some B)] w (Tr w own):=by
 have fl:=pb;have E:=Qh WG;have A9:=zr w;have ov:=Qh A9;have pB:=Qh ((Kept.refl ag w).alloc (.map #[] 0));clear WG A9;have mm:=@run_makeMap Tryz.prog
 go_enter Tryz.func104,Tryz.ntmps104
 go_wp2_with fail
 refine(wH ⟨#[]⟩ ⟨#[]⟩ 0 0 0 0 0 0 false (fun _=>0) rfl rfl rfl rfl rfl _).mono ?_;rintro e w1 ⟨N,rfl,hN,O,Y⟩;have HN:=Qh hN;have J:Hid (N≠w.heap.size):=Qh (by rw[World.size_alloc]at O;omega);have WB:=Qh (ov.out.kept Y id);have Pq:=Qh ((E.out.jq pB.out).jq Y);have nQ:=Qh (pB.out.trans Y);clear hN O Y;obtain⟨R,hR⟩:∃R,R=w1.heap.size:=⟨_,rfl⟩
 go_wp2_with (first|(at_range;refine pG rfl _ rfl Tryz.underlying171 N HN.out (fun _=>true) (fun _ _ _=>rfl) rfl R hR ?_;intro w2 HI Z Bw)|go_in)
 have ox:=Qh (nQ.out.trans Z.out);have Gb:=Qh (Pq.out.jq Z.out);have Ik:=Qh (WB.out.kept Z.out id)
 have W:Hid (w.heap.size<R):=Qh (by
  have:=WB.out.lt
  omega)
 clear Z Bw hR
 try go_frame
 go_loopw [12] (fun _ wr=>∃todo,Hid (oY wr N R (tI fun _=>0) todo)∧Hid (bB wr lo B r own)∧Hid (rE wr w.heap.size (fun i=>if todo i=true then none else tI (fun i=>tU (aY (own i))) i))∧Hid (Kept ag w wr)∧Hid (∀i,1≤i→i≤5→todo i=false→BF (aY (own i))=true)) (fun _ wr=>wr.rangeLeft N R)
 case atStart=>exact⟨fun _=>true,HI,Gb,by
  have e:(fun i=>if true=true then none else tI (fun i=>tU (aY (own i))) i)=fun _=>(none:Option Value):=by funext i;rfl
  rw[e];exact Ik,ox,Qh (fun i _ _ h=>by cases h)⟩
 case round=>
  obtain⟨todo,u,hP,hQ,hK,hD⟩:=hrel
  go_wp2_with (at_next;refine qB rfl _ rfl N R todo (fun _=>.int .i64 0) (JU _) rfl u.out ?_ ?_)
  ·intro hd
   have D:∀i,1≤i→i≤5→todo i=false:=fun i h1 A=>hd i (.int .i64 0) (yt _ h1 A)
   have V:Hid (yu own=true∧(fun i=>if todo i=true then none else tI (fun i=>tU (aY (own i))) i)=tI fun i=>tU (aY (own i))):=Qh ⟨vM.2 fun i h1 A=>hD.out i h1 A (D i h1 A),by
    funext i
    split
    ·rename_i H
     unfold tI;rw[if_neg];rintro⟨h1,A⟩;rw[D i h1 A]at H
     cases H
    ·rfl⟩
   clear hd D;go_wp2;go_ret2;refine⟨hK.out,Or.inl ⟨V.out.1,_,rfl,?_⟩⟩;have h1:=hQ.out;rw[V.out.2]at h1;exact h1
  ·intro j w3 v hj Yj NS Pp c Cw X6
   have hj:=O1 hj;obtain⟨L9,hj5⟩:=hj;have p:j<11:=by omega
   have t:=hP.out.kept c.out (fun e=>by
    have h1:=hP.out.map;have A:=u.out;obtain⟨es,clock,hb,_⟩:=h1;obtain⟨_,_,_,_,_,_,_,_,_,hr,_⟩:=A;have e:B=R:=e;rw[←e,hb]at hr
    cases hr) (fun i hi e=>(q7 u.out (hP.out.row i hi)).2 e)
   have T:=hQ.out.kept c.out (fun e=>by
    have e:w.heap.size=R:=e;have:=W.out
    omega)
   have M:=hK.out.then c.out (fun i hi=>Or.inl (by
    have h1:i=R:=hi;have:=W.out
    omega))
   have lk:(Instr.lookup 166 (.map (some B)) (.int .i64 (j:Int)) false).run Tryz.prog w3=.ok (.agg #[.int .i64 (nH j),.slice (some ⟨r j,0,none⟩) (aq j) (aq j)]) w3:=
    t.map.look (P:=Tryz.prog) Tryz.underlying166 Tryz.underlying170 (x:=j) (v:=jr r j) (by unfold qe;rw[if_pos p])
   have hw:=sS p;have HJ:=Qh p;have d:=Qh t;have g:=Qh T;have KR:=Qh M;have HW:=Qh hw;have o:=Qh Yj;have X:Hid (1≤j∧j≤5):=Qh ⟨L9,hj5⟩;clear t T M hw Yj;go_wp2_with fail;refine(Ft _ (aq j) (aq j) (own j) w3 (d.out.fit j) (Qk _) (by have:=HW.out;unfold maxLen;omega) (d.out.nB HJ.out)).mono ?_;rintro e w4 ⟨rfl,nE⟩;have U:Kept ag w3 w4:=Kept.bj nE _;have NV:=Qh (d.out.jq U);have l:=Qh (g.out.kept U id);have Bg:=Qh (KR.out.trans U);have q:=NS.out.kept U id id;have NT:=Qh q.1;have f:Hid (w4.rangeLeft N R<wr.rangeLeft N R):=Qh (by rw[q.2];exact Pp.out);clear nE U q lk
   by_cases I:BF (aY (own j))=true
   ·have zR:=Qh I
    rw[I];clear I
    go_wp2_with (first|(at_mapUpdate;refine kg rfl _ _ _ (Or.inl rfl) Tryz.underlying171 Tryz.underlying170 w.heap.size l.out rfl j rfl (by rw[o.out];rfl) (.int .i64 (tU (aY (own j)))) rfl ?_;intro w5 m b yM)|go_in)
    try go_frame
    try go_wp2
    go_roundw
    case rel=>
     have G:=NT.out.kept b.out J.out (fun e=>by
      have e:R=w.heap.size:=e;have:=W.out
      omega)
     refine⟨fun z=>todo z&&z != j,Qh G.1,Qh (NV.out.kept b.out (fun e=>?_) (fun i hi e=>?_)),Qh ?_,Qh (Bg.out.then b.out (fun i hi=>Or.inl (by
      have h1:i=w.heap.size:=hi
      omega))),Qh (fun i h1 A H=>?_)⟩
     ·have e:B=w.heap.size:=e
      have:=E.out.map.lt;omega
     ·have e:r i=w.heap.size:=e
      have:=(E.out.row i hi).lt;omega
     ·have h1:=m.out
      have e:(fun y=>if y=j then some (Value.int .i64 (tU (aY (own j))))else if todo y=true then none else tI (fun i=>tU (aY (own i))) y)=fun i=>if(todo i&&i != j)=true then none else tI (fun i=>tU (aY (own i))) i:=by
       funext y
       by_cases hy:y=j
       ·subst hy
        rw[if_pos rfl,if_neg (by simp),yt _ X.out.1 X.out.2]
       ·have A:(y != j)=true:=by simpa using hy
        rw[if_neg hy,A,Bool.and_true]
      rw[e]at h1;exact h1
     ·by_cases A8:i=j
      ·rw[A8];exact zR.out
      ·have h3:(i != j)=true:=by simpa using A8
       have H:(todo i&&i != j)=false:=H;rw[h3,Bool.and_true]at H;exact hD.out i h1 A H
    case measure=>
     have G:=NT.out.kept b.out J.out (fun e=>by
      have e:R=w.heap.size:=e;have:=W.out
      omega)
     have h1:=f.out;have A:=G.2;omega
   ·have L:BF (aY (own j))=false:=by simpa using I
    have V:Hid (yu own=false):=Qh (by
     cases hc:yu own with
     |false=>rfl
     |true=>exact absurd (vM.1 hc j X.out.1 X.out.2) I)
    rw[L];clear I L;go_wp2;go_ret2;exact⟨Bg.out,Or.inr ⟨V.out,rfl⟩⟩
def V2 (r:Nat→Nat):Nat→Prop:=fun k=>∃i,i<11∧k=r i
def C0 (h:af) (own:Nat→List UInt8):Nat→List UInt8:=fun i=>if 1≤i∧i≤5 then MT h i else own i
def zT (w:World) (lo B:Nat) (r:Nat→Nat) (h:af) (own:Nat→List UInt8) (e:Ending) (w':World):Prop:=
 Kept (V2 r) w w'∧((nC h=true∧e=.returned (.bool true)∧bB w' lo B r (C0 h own))∨(nC h=false∧e=.returned (.bool false)))
theorem Dh (h:af) (hwf:∀i,(Lit.int .i64 (sc h i)).wf=true) (lo B:Nat) (r:Nat→Nat) (own:Nat→List UInt8) (w:World) (WG:bB w lo B r own) (hz:∀i,1≤i→i≤5→own i=List.replicate (aq i) 0):
 Calls Tryz.prog 158 #[.map (some B),.agg #[.string (str h.name),.string (str h.link),.int .u8 (h.kind.toNat:Int),.int .i64 h.mode,.int .i64 h.uid,.int .i64 h.gid,.int .i64 h.time,.int .i64 h.size,.bool h.j7]] w (zT w lo B r h own):=by
 have fl:=pb;have X:=Qh WG;have HZ:=Qh hz;have c:=Qh hwf;have pB:=Qh ((Kept.refl ag w).alloc (.cells #[.string (str h.name),.string (str h.link),.int .u8 (h.kind.toNat:Int),.int .i64 h.mode,.int .i64 h.uid,.int .i64 h.gid,.int .i64 h.time,.int .i64 h.size,.bool h.j7] 66));clear WG hz hwf
 go_enter Tryz.func158,Tryz.ntmps158
 go_wp2_with fail
 refine(wH _ _ _ _ _ _ _ _ _ (sc h) rfl rfl rfl rfl rfl _).mono ?_;rintro e w1 ⟨N,rfl,hN,q,jM⟩;have HN:=Qh hN;have Pq:=Qh ((X.out.jq pB.out).jq jM);have nQ:=Qh (pB.out.trans jM);clear hN q jM;obtain⟨R,t⟩:∃R,R=w1.heap.size:=⟨_,rfl⟩
 go_wp2_with (first|(at_range;refine pG rfl _ rfl Tryz.underlying171 N HN.out (fun _=>true) (fun _ _ _=>rfl) rfl R t ?_;intro w2 HI jm Bw)|go_in)
 have ox:=Qh ((nQ.out.trans jm.out).kC (V2 r));have Gb:=Qh (Pq.out.jq jm.out);have Im:Hid (w.heap.size≤R):=Qh (by rw[t];exact nQ.out.size);clear jm Bw t
 try go_frame
 go_loopw [12] (fun _ wr=>∃todo,Hid (oY wr N R (tI (sc h)) todo)∧Hid (bB wr lo B r (ri todo own (C0 h own)))∧Hid (Kept (V2 r) w wr)∧Hid (∀i,1≤i→i≤5→todo i=false→(nJ (sc h i) (aq i)).isSome=true)) (fun _ wr=>wr.rangeLeft N R)
 case atStart=>exact⟨fun _=>true,HI,by
  have e:ri (fun _=>true) own (C0 h own)=own:=by funext i;exact if_pos rfl
  rw[e];exact Gb,ox,Qh (fun i _ _ h=>by cases h)⟩
 case round=>
  obtain⟨todo,p,O,hK,hD⟩:=hrel
  go_wp2_with (at_next;refine qB rfl _ rfl N R todo (fun j=>.int .i64 (sc h j)) (JU _) rfl p.out ?_ ?_)
  ·intro hd
   have D:∀i,1≤i→i≤5→todo i=false:=fun i h1 A=>hd i _ (yt _ h1 A)
   have I:Hid (nC h=true∧ri todo own (C0 h own)=C0 h own):=Qh ⟨jV.2 fun i h1 A=>hD.out i h1 A (D i h1 A),by
    funext i
    unfold ri;split
    ·rename_i G
     unfold C0;rw[if_neg];rintro⟨h1,A⟩;rw[D i h1 A]at G
     cases G
    ·rfl⟩
   clear hd D;go_wp2;go_ret;refine⟨hK.out,Or.inl ⟨I.out.1,rfl,?_⟩⟩;have h1:=O.out;rw[I.out.2]at h1;exact h1
  ·intro j w3 v y Yj NS Pp Bf Cw X6
   have y:=O1 y;obtain⟨L9,hj5⟩:=y;have J:j<11:=by omega
   have g:=O.out.kept Bf.out (fun e=>by
    have h1:=O.out.map;have A:=p.out;obtain⟨es,clock,hb,_⟩:=h1;obtain⟨_,_,_,_,_,_,_,_,_,hr,_⟩:=A;have e:B=R:=e;rw[←e,hb]at hr
    cases hr) (fun i hi e=>(q7 p.out (O.out.row i hi)).2 e)
   have H:=hK.out.then Bf.out (fun i hi=>Or.inl (by
    have h1:i=R:=hi;have:=Im.out
    omega))
   have lk:(Instr.lookup 166 (.map (some B)) (.int .i64 (j:Int)) false).run Tryz.prog w3=.ok (.agg #[.int .i64 (nH j),.slice (some ⟨r j,0,none⟩) (aq j) (aq j)]) w3:=
    g.map.look (P:=Tryz.prog) Tryz.underlying166 Tryz.underlying170 (x:=j) (v:=jr r j) (by unfold qe;rw[if_pos J])
   have hw:=sS J;have HJ:=Qh J;have Bh:=Qh g;have KR:=Qh H;have HW:=Qh hw;have HTJ:=Qh Yj;have m:Hid (1≤j∧j≤5):=Qh ⟨L9,hj5⟩;have L:=Qh (q7 (NS.out) (Bh.out.row j J));clear g H hw Yj;go_wp2_with fail
   refine(O6 (sc h j) (aq j) w3 (c.out j) (by
    have:=HW.out
    exact WalkArith.wf_i64 (by omega))).mono ?_
   rintro e w4 ⟨T,(⟨l,v4,hl,rfl,aK⟩|⟨hl,rfl⟩)⟩
   ·have hlen:=Az hl
    obtain⟨p4,c4,rfl,u,hm4,A2,_⟩:=O7 rfl hl aK;have U:Kept ag w3 w4:=Kept.bj T _;have NV:=Qh (Bh.out.jq U);have V:=Qh (KR.out.trans (U.kC _));have f:=NS.out.kept U id id;have NT:=Qh f.1;have W:Hid (w4.rangeLeft N R<wr.rangeLeft N R):=Qh (by rw[f.2];exact Pp.out);have oE:(bytesOf l).length=aq j:=by rw[bytesOf_length];omega
    have cs:(convert 26 9 (.slice p4 l.length c4)).run Tryz.prog w4=.ok (.string (str (bytesOf l))) w4:=iR A2 (by rw[bytesOf_length]) _ _ _ Tryz.underlying26 Tryz.underlying5 Tryz.underlying9 c4;have HB:Hid (MT h j=bytesOf l):=Qh (zu hl);have NR:=Qh oE;have Z:Hid ((nJ (sc h j) (aq j)).isSome=true):=Qh (by rw[hl];rfl);clear hl aK hlen u hm4 A2 T U f lk oE;go_wp2_with fail;refine(pr lo B r _ j (str (bytesOf l)) w4 HJ.out NV.out).mono ?_;rintro e w5 ⟨rfl,M,p7,yM⟩;have hold:(ri todo own (C0 h own) j).length=aq j:=NV.out.fit j;rw[aS,List.take_of_length_le (by rw[NR.out];exact Qk _),rT (by rw[NR.out,hold])]at M;have o:=CT (todo:=todo) (a:=own) (b:=C0 h own) j;rw[show C0 h own j=bytesOf l by unfold C0;rw[if_pos m.out,HB.out]]at o;rw[o]at M;have Y:=Qh M;have d:=Qh p7;clear M p7 yM hold o cs;go_wp2;go_roundw
    case rel=>
     have E:=NT.out.kept d.out (fun e=>L.out.1 (Eq.symm e)) (fun e=>L.out.2 (Eq.symm e));refine⟨fun z=>todo z&&z != j,Qh E.1,Y,Qh (V.out.trans (d.out.mono (fun k hk=>⟨j,HJ.out,hk⟩))),Qh (fun i h1 A G=>?_)⟩
     by_cases A8:i=j
     ·rw[A8];exact Z.out
     ·have h3:(i != j)=true:=by simpa using A8
      have G:(todo i&&i != j)=false:=G;rw[h3,Bool.and_true]at G;exact hD.out i h1 A G
    case measure=>
     have E:=NT.out.kept d.out (fun e=>L.out.1 (Eq.symm e)) (fun e=>L.out.2 (Eq.symm e));have h1:=W.out;have A:=E.2;omega
   ·have I:Hid (nC h=false):=Qh (by
     cases hc:nC h with
     |false=>rfl
     |true=>
      have:=jV.1 hc j m.out.1 m.out.2;rw[hl]at this
      cases this)
    have V:=Qh (KR.out.trans (Kept.bj T _));clear hl T lk;go_wp2;go_ret;exact⟨V.out,Or.inr ⟨I.out,rfl⟩⟩
theorem jR {fn:Func} (hf:fn.results=#[.cell 2 66,.tmp 3]) (tmps:Array Value) (w:World) (g:Nat) (v:Value) (ht:tmps.getD 2 undef=.pointer (some ⟨g,0,none⟩)) (hv:tmps.getD 3 undef=v)
 (a b:ByteArray) (k m u i t z:Int) (n:Bool) (h:w.heap[g]? =some (.cells #[.string a,.string b,.int .u8 k,.int .i64 m,.int .i64 u,.int .i64 i,.int .i64 t,.int .i64 z,.bool n] 66 (0,0))):
 (results fn tmps).run Tryz.prog w=.ok (.tuple #[.agg #[.string a,.string b,.int .u8 k,.int .i64 m,.int .i64 u,.int .i64 i,.int .i64 t,.int .i64 z,.bool n],v]) w:=by
 rw[results_cell_tmp hf,ht,hv];have hl:=vL w g a b k m u i t z n h;simp[asAddr,hl,Result.andThen]
theorem Z8 {lo:Nat} {r:Nat→Nat} (h:bB w lo B r own) (i:Nat) (hi:i<11):
 (Instr.lookup 166 (.map (some B)) (.int .i64 (i:Int)) false).run Tryz.prog w=.ok (.agg #[.int .i64 (nH i),.slice (some ⟨r i,0,none⟩) (aq i) (aq i)]) w:=
 h.map.look (P:=Tryz.prog) Tryz.underlying166 Tryz.underlying170 (x:=i) (v:=jr r i) (by unfold qe;rw[if_pos hi])
theorem tJ (bs:List UInt8):yu (jG bs)=qz bs:=by
 have e:∀i,1≤i→i≤5→jG bs i=aj bs i:=fun i h1 A=>if_pos (by omega)
 cases h:qz bs with
 |true=>
  refine vM.2 fun i h1 A=>?_
  rw[e i h1 A];exact pR.1 h i h1 A
 |false=>
  cases A:yu (jG bs)with
  |false=>rfl
  |true=>
   have E:qz bs=true:=pR.2 fun i B D=>by
    rw[←e i B D];exact vM.1 A i B D
   rw[h]at E
   cases E
theorem uX (bs:List UInt8) (i:Nat) (hi:i<11):jG bs i=aj bs i:=if_pos hi
def jD:Array Value:=#[.string ⟨#[]⟩,.string ⟨#[]⟩,.int .u8 0,.int .i64 0,.int .i64 0,.int .i64 0,.int .i64 0,.int .i64 0,.bool false]
theorem oQ {e:TypeId} (h:w.heap[g]? =some (.cells jD e (0,0))) (v0 v1 v2 v3 v4 v5 v6 v7 v8:Value):
 (((((((((w.setCell ⟨g,0,none⟩ v0).setCell ⟨g,1,none⟩ v1).setCell ⟨g,2,none⟩ v2).setCell ⟨g,3,none⟩ v3).setCell ⟨g,4,none⟩ v4).setCell ⟨g,5,none⟩ v5).setCell ⟨g,6,none⟩ v6).setCell ⟨g,7,none⟩ v7).setCell ⟨g,8,none⟩ v8).heap[g]? =
   some (.cells #[v0,v1,v2,v3,v4,v5,v6,v7,v8] e (0,0)):=by
 have st:∀{w:World} {cs:Array Value} (i:Nat) (v:Value),w.heap[g]? =some (.cells cs e (0,0))→(w.setCell ⟨g,i,none⟩ v).heap[g]? =some (.cells (cs.setIfInBounds i v) e (0,0)):=by
  intro w cs i v h;rw[setCell_eq_setRow w g i _ _ _ _ h];exact setRow_heap w g _ _ _ _ h
 have A:(w.setCell ⟨g,0,none⟩ v0).heap[g]? =some (.cells #[v0,.string ⟨#[]⟩,.int .u8 0,.int .i64 0,.int .i64 0,.int .i64 0,.int .i64 0,.int .i64 0,.bool false] e (0,0)):=st 0 v0 h;have h1:((w.setCell ⟨g,0,none⟩ v0).setCell ⟨g,1,none⟩ v1).heap[g]? =some (.cells #[v0,v1,.int .u8 0,.int .i64 0,.int .i64 0,.int .i64 0,.int .i64 0,.int .i64 0,.bool false] e (0,0)):=st 1 v1 A;have B:(((w.setCell ⟨g,0,none⟩ v0).setCell ⟨g,1,none⟩ v1).setCell ⟨g,2,none⟩ v2).heap[g]? =some (.cells #[v0,v1,v2,.int .i64 0,.int .i64 0,.int .i64 0,.int .i64 0,.int .i64 0,.bool false] e (0,0)):=st 2 v2 h1;have D:((((w.setCell ⟨g,0,none⟩ v0).setCell ⟨g,1,none⟩ v1).setCell ⟨g,2,none⟩ v2).setCell ⟨g,3,none⟩ v3).heap[g]? =some (.cells #[v0,v1,v2,v3,.int .i64 0,.int .i64 0,.int .i64 0,.int .i64 0,.bool false] e (0,0)):=st 3 v3 B;have E:(((((w.setCell ⟨g,0,none⟩ v0).setCell ⟨g,1,none⟩ v1).setCell ⟨g,2,none⟩ v2).setCell ⟨g,3,none⟩ v3).setCell ⟨g,4,none⟩ v4).heap[g]? =some (.cells #[v0,v1,v2,v3,v4,.int .i64 0,.int .i64 0,.int .i64 0,.bool false] e (0,0)):=st 4 v4 D;have G:((((((w.setCell ⟨g,0,none⟩ v0).setCell ⟨g,1,none⟩ v1).setCell ⟨g,2,none⟩ v2).setCell ⟨g,3,none⟩ v3).setCell ⟨g,4,none⟩ v4).setCell ⟨g,5,none⟩ v5).heap[g]? =some (.cells #[v0,v1,v2,v3,v4,v5,.int .i64 0,.int .i64 0,.bool false] e (0,0)):=st 5 v5 E;have H:(((((((w.setCell ⟨g,0,none⟩ v0).setCell ⟨g,1,none⟩ v1).setCell ⟨g,2,none⟩ v2).setCell ⟨g,3,none⟩ v3).setCell ⟨g,4,none⟩ v4).setCell ⟨g,5,none⟩ v5).setCell ⟨g,6,none⟩ v6).heap[g]? =some (.cells #[v0,v1,v2,v3,v4,v5,v6,.int .i64 0,.bool false] e (0,0)):=st 6 v6 G
 have I:((((((((w.setCell ⟨g,0,none⟩ v0).setCell ⟨g,1,none⟩ v1).setCell ⟨g,2,none⟩ v2).setCell ⟨g,3,none⟩ v3).setCell ⟨g,4,none⟩ v4).setCell ⟨g,5,none⟩ v5).setCell ⟨g,6,none⟩ v6).setCell ⟨g,7,none⟩ v7).heap[g]? =some (.cells #[v0,v1,v2,v3,v4,v5,v6,v7,.bool false] e (0,0)):=st 7 v7 H;have J:(((((((((w.setCell ⟨g,0,none⟩ v0).setCell ⟨g,1,none⟩ v1).setCell ⟨g,2,none⟩ v2).setCell ⟨g,3,none⟩ v3).setCell ⟨g,4,none⟩ v4).setCell ⟨g,5,none⟩ v5).setCell ⟨g,6,none⟩ v6).setCell ⟨g,7,none⟩ v7).setCell ⟨g,8,none⟩ v8).heap[g]? =some (.cells #[v0,v1,v2,v3,v4,v5,v6,v7,v8] e (0,0)):=st 8 v8 I;exact J
theorem sC {w0:World} (h:Kept (aA g) w0 w) (v0 v1 v2 v3 v4 v5 v6 v7 v8:Value):
 Kept (aA g) w0 (((((((((w.setCell ⟨g,0,none⟩ v0).setCell ⟨g,1,none⟩ v1).setCell ⟨g,2,none⟩ v2).setCell ⟨g,3,none⟩ v3).setCell ⟨g,4,none⟩ v4).setCell ⟨g,5,none⟩ v5).setCell ⟨g,6,none⟩ v6).setCell ⟨g,7,none⟩ v7).setCell ⟨g,8,none⟩ v8):=by
 have st:∀{w:World} (i:Nat) (v:Value),Kept (aA g) w0 w→Kept (aA g) w0 (w.setCell ⟨g,i,none⟩ v):=fun i v h=>h.setCell (a:=⟨g,i,none⟩) (Or.inr (show aA g g from rfl)) v
 exact st 8 v8 (st 7 v7 (st 6 v6 (st 5 v5 (st 4 v4 (st 3 v3 (st 2 v2 (st 1 v1 (st 0 v0 h))))))))
theorem F2:str kf=⟨#[117,115,116,97,114,0,48,48]⟩:=rfl
theorem On:str xZ=⟨#[117,115,116,97,114,32,32,0]⟩:=rfl
end Head
namespace Rec
open Path
theorem Jr (l:List UInt8) (c:UInt8) (i:Nat) (hi:i<l.length) (hn:∀j,j<i→l.getD j 0≠c) (h:l.getD i 0=c):indexByte l c=i:=by
 have e:l=l.take i++c::l.drop (i+1):=by
  have A:l[i]=c:=by rw[←h,List.getD,Qd hi];rfl
  rw[←A,List.getElem_cons_drop,List.take_append_drop]
 have hc:(l.take i).contains c=false:=by
  cases B:(l.take i).contains c with
  |false=>rfl
  |true=>
   obtain⟨j,D,he⟩:=List.mem_iff_getElem.1 (List.contains_iff_mem.1 B);rw[Qg]at D;rw[List.getElem_take]at he;exact absurd (by rw[List.getD,Qd (by omega),he];rfl) (hn j (by omega))
 rw[e,index_first _ _ _ hc,Qg];omega
theorem E9 (l:List UInt8) (c:UInt8) (hn:∀j,j<l.length→l.getD j 0≠c):indexByte l c<1:=by
 have h1:=vK l c
 have hc:l.contains c=false:=by
  cases B:l.contains c with
  |false=>rfl
  |true=>
   obtain⟨j,A,he⟩:=List.mem_iff_getElem.1 (List.contains_iff_mem.1 B);exact absurd (by rw[List.getD,Qd A,he];rfl) (hn j A)
 rw[hc,decide_eq_false_iff_not]at h1;omega
theorem sw (S:ByteArray) (a b:Nat):(S.extract a b).data.toList=(S.data.toList.drop a).take (b - a):=by
 rw[ByteArray.data_extract,Array.toList_extract,List.extract_eq_take_drop]
theorem Gs (S:ByteArray) (a:Nat):S.extract a S.size=str (S.data.toList.drop a):=by
 apply ByteArray.ext;rw[←Array.toList_inj];show(S.extract a S.size).data.toList=_;rw[sw];simp only[str];rw[List.take_of_length_le (by rw[Qe,←jv];exact Qk _)]
theorem Oh (S:ByteArray) (a b:Nat):S.extract a b=str ((S.data.toList.drop a).take (b - a)):=by
 rw[←sw,zF]
theorem Dk {R T:Int} {l:List UInt8} (h:¬(jd l<1∨7<jd l∨l.getD 0 0=48∨jd l=l.length∨l.getD (jd l) 0≠32)):
 (l.length<ki (l.take (jd l))∨ki (l.take (jd l))<jd l+4∨l.getD (ki (l.take (jd l)) - 1) 0≠10→aZ R T l=.error R)∧
 (¬(l.length<ki (l.take (jd l))∨ki (l.take (jd l))<jd l+4∨l.getD (ki (l.take (jd l)) - 1) 0≠10)→∀line,line=(l.drop (jd l+1)).take (ki (l.take (jd l)) - 1 - (jd l+1))→
  (indexByte line 61<1→aZ R T l=.error R)∧(¬indexByte line 61<1→aQ line=false→aZ R T l=.error T)∧
  (¬indexByte line 61<1→aQ line=true→aZ R T l=.ok (line.take (indexByte line 61).toNat,line.drop ((indexByte line 61).toNat+1),ki (l.take (jd l))))):=by
 unfold aZ;rw[if_neg h];refine⟨fun h1=>if_pos h1,fun h1 line hl=>?_⟩;rw[if_neg h1,←hl];refine⟨fun A=>if_pos A,fun A B=>?_,fun A B=>?_⟩
 ·dsimp only;rw[if_neg A,if_pos B]
 ·dsimp only;rw[if_neg A,if_neg (by rw[B];simp)]
theorem FR (S:ByteArray) (a b:Nat) (WJ:a+1≤b) (hb:b≤S.size) (w:World):
 (Instr.slice 9 (.string S) (some (.int .i64 ((a:Int)+1))) (some (.int .i64 (b:Int))) none).run Tryz.prog w=.ok (.string (S.extract (a+1) b)) w:=by
 have E:=Tryz.underlying9;have h1:(a:Int)+1≤(b:Int):=by omega
 have A:(b:Int)≤(S.size:Int):=by omega
 have B:(0:Int)≤(a:Int)+1:=by omega
 have D:((a:Int)+1).toNat=a+1:=by omega
 simp[go_sem,Instr.slice,Instr.sliceBounds,Result.andThen,h1,A,B,D]
theorem ve (S:ByteArray) (a:Nat) (ha:a+1≤S.size) (w:World):
 (Instr.slice 9 (.string S) (some (.int .i64 ((a:Int)+1))) none none).run Tryz.prog w=.ok (.string (str (S.data.toList.drop (a+1)))) w:=by
 have E:=Tryz.underlying9;have A:(a:Int)+1≤(S.size:Int):=by omega
 have B:(0:Int)≤(a:Int)+1:=by omega
 have D:((a:Int)+1).toNat=a+1:=by omega
 rw[←Gs];simp[go_sem,Instr.slice,Instr.sliceBounds,Result.andThen,A,B,D]
def IB (R T:Int) (l:List UInt8) (w:World) (e:Ending) (w':World):Prop:=
 ∃p c,e=.returned (.tuple #[.slice p (aO R T l).1.length c,.int .i64 (aO R T l).2])∧(aO R T l).1.length≤c∧c≤maxLen∧bG w' p (aO R T l).1.length (aO R T l).1∧Below w.heap.size w w'
theorem yD (R T:Int) (l:List UInt8) (w w':World) (er:Int) (h:aO R T l=([],er)) (hb:Below w.heap.size w w'):IB R T l w (.returned (.tuple #[.slice none 0 0,.int .i64 er])) w':=
 ⟨none,0,by rw[h];rfl,by rw[h];exact Qk _,by decide,by rw[h];exact⟨rfl,fun h=>absurd h (by simp)⟩,hb⟩
def vA (R T:Int) (l:List UInt8) (w:World) (e:Ending) (w':World):Prop:=
 ∃p c,e=.returned (.tuple #[.slice p (aO R T l).1.length c,.int .i64 (aO R T l).2])∧(aO R T l).1.length≤c∧c≤maxLen∧bG w' p (aO R T l).1.length (aO R T l).1∧Below w.heap.size w w'∧∀a,p=some a→w.heap.size≤a.block
theorem bD (R T:Int) (l:List UInt8) (w w':World) (er:Int) (h:aO R T l=([],er)) (hb:Below w.heap.size w w'):vA R T l w (.returned (.tuple #[.slice none 0 0,.int .i64 er])) w':=
 ⟨none,0,by rw[h];rfl,by rw[h];exact Qk _,by decide,by rw[h];exact⟨rfl,fun h=>absurd h (by simp)⟩,hb,fun a ha=>by cases ha⟩
theorem ah9 {base:Nat} {e:TypeId} {k:Nat} {n:Nat} {xs:List Value} (h:w.ownsRow base e k v n xs):∀p m c,v=.slice p m c→∀a,p=some a→base≤a.block:=by
 intro p m c A a ha;rcases h.2 with⟨h1,_⟩|⟨g,cap,cur,h1,h2,_⟩
 ·rw[A]at h1
  cases h1
  cases ha
 ·rw[A]at h1
  cases h1
  cases ha
  exact h2
theorem AD (p0:Option Addr) (n0 c0:Nat) (bs:List UInt8) (w:World) (hn:bs.length=n0) (hc:n0≤c0) (hm:n0≤1000000000000) (h:iC w p0 n0 bs):
 Calls Tryz.prog 35 #[.slice p0 n0 c0] w (vA 5 9 bs w):=by
 have cv:=iR h hn _ _ _ Tryz.underlying26 Tryz.underlying5 Tryz.underlying9 c0;have HN:=Qh hn;obtain⟨i0,hi,kh,jS,jU⟩:=info_parts BB;have HI:=Qh hi;have rC:=Qh kh;have pX:=Qh jS;have pD:=Qh jU;have mixed:Tryz.prog.follows .mixedOrders=true:=by kernel_rfl
 clear h hn hi kh jS jU
 go_enter Tryz.func35,Tryz.ntmps35
 go_wp2_with fail
 rw[show(⟨bs.toArray⟩:ByteArray)=str bs from rfl];clear cv
 go_loopw [4,5] (fun o s wr=>∃(l:List UInt8) (acc:List (List UInt8 × List UInt8)),s=.string (str l)∧Hid (wr.ownsRow w.heap.size 121 2 o acc.length (iQ acc))∧Hid (lg 5 9 l acc=aO 5 9 bs)∧Hid (acc.length+l.length≤n0)∧Hid (Below w.heap.size w wr)) (fun _ s _=>match s with|.string b=>b.size|_=>0)
 case atStart=>exact⟨bs,[],rfl,Qh (World.ownsRow_nil _ _ _ _),Qh rfl,Qh (by rw[HN.out];simp),Qh (Below.refl _ _)⟩
 case round=>
  obtain⟨l,acc,rfl,aK,hr,hlen,B⟩:=hrel;obtain⟨S,hS⟩:∃S,S=str l:=⟨_,rfl⟩
  rw[←hS];have Y:Hid (S.data.toList=l):=Qh (by rw[hS,aS]);have H:Hid (S.size=l.length):=Qh (by rw[hS,ax]);have NY:=Qh hS;clear hS
  by_cases WN:S.size=0
  ·have hl:l=[]:=List.length_eq_zero_iff.1 (by rw[←H.out];exact WN)
   have hG:Hid (aO 5 9 bs=(acc,0)):=Qh (by rw[←hr.out,hl,tO]);have hz:¬((0:Int)<(S.size:Int)):=by omega
   have ap2:=ah9 aK.out;obtain⟨p,c,rfl,h1,h2,h3⟩:=ru aK.out;have H3:=Qh (And.intro h1 (And.intro h2 h3));have ay7:=Qh (ap2 p _ c rfl);clear hl WN h1 h2 h3 ap2;go_wp2;go_ret2;refine⟨p,c,by rw[hG.out];rfl,?_,H3.out.2.1,?_,B.out,ay7.out⟩
   ·rw[hG.out];exact H3.out.1
   ·rw[hG.out];exact H3.out.2.2
  ·have D9:(0:Int)<(S.size:Int):=by omega
   have vT:Hid (l≠[]):=Qh (fun e=>by have:=H.out;rw[e]at this;exact WN this);have KJ:(S.size:Int)≤1000000000000:=by have:=H.out;have:=hlen.out;omega
   have D:Hid (∀er,aZ 5 9 l=.error er→aO 5 9 bs=([],er)):=Qh (fun er he=>by rw[←hr.out,kM 5 9 l vT.out,he]);go_wp2_with fail
   go_loop [6] (fun i=>∃(k:Nat),k≤S.size∧i=.int .i64 (k:Int)∧Hid (∀j,j<k→aN (l.getD j 0)=true)) (fun i=>S.size - (RowKit.intOf i).toNat)
   case atStart=>exact⟨0,Nat.zero_le _,rfl,Qh (fun j A=>absurd A (by omega))⟩
   case round=>
    obtain⟨k,hk,rfl,hd⟩:=hrel
    by_cases ay:k<S.size
    ·have hx:Hid (S[k]=l.getD k 0):=Qh (by rw[←Y.out,oK S k ay])
     obtain⟨C,hC⟩:∃C:Nat,(S[k]).toNat=C:=⟨_,rfl⟩
     have hC2:((S[k]).toNat:Int)=(C:Int):=by rw[hC]
     have hC3:(C:Int)≤255:=by have:=(S[k]).toNat_lt;omega
     have HC:Hid ((l.getD k 0).toNat=C):=Qh (by rw[←hx.out];exact hC);clear hC;have qX:(k:Int)<(S.size:Int):=by omega
     by_cases g1:(48:Int)≤(C:Int)
     ·by_cases g2:(C:Int)≤57
      ·have HD:Hid (∀j,j<k+1→aN (l.getD j 0)=true):=Qh (fun j A=>by
        rcases Nat.lt_succ_iff_lt_or_eq.1 A with h|rfl
        ·exact hd.out j h
        ·simp only[aN,decide_eq_true_eq,HC.out];omega)
       go_wp2
       go_round
       case rel=>exact⟨k+1,by omega,by go_num,HD⟩
       case measure=>simp[RowKit.intOf];omega
      ·have I:Hid (jd l=k):=Qh (xW l k (by rw[←H.out];exact hk) hd.out (.inr (by simp only[aN,HC.out,decide_eq_false_iff_not];omega)))
       by_cases t1:(k:Int)<1
       ·have G:=Qh t1
        have E:Hid (aO 5 9 bs=([],5)):=Qh (D.out 5 (by unfold aZ;rw[I.out,if_pos (.inl (by omega))]));go_wp2;go_ret2;exact bD 5 9 bs w _ 5 E.out B.out
       ·by_cases t2:(7:Int)<(k:Int)
        ·have G:=Qh t2
         have E:Hid (aO 5 9 bs=([],5)):=Qh (D.out 5 (by unfold aZ;rw[I.out,if_pos (.inr (.inl (by omega)))]));go_wp2;go_ret2;exact bD 5 9 bs w _ 5 E.out B.out
        ·by_cases t3:S[0]=48
         ·have f:(((S[0]).toNat:Int)==48)=true:=by rw[t3];rfl
          have G:Hid (l.getD 0 0=48):=Qh (by rw[←Y.out,oK S 0 (by omega)];exact t3);clear t3;have E:Hid (aO 5 9 bs=([],5)):=Qh (D.out 5 (by unfold aZ;rw[I.out,if_pos (.inr (.inr (.inl G.out)))]));go_wp2;go_ret2;exact bD 5 9 bs w _ 5 E.out B.out
         ·have f:(((S[0]).toNat:Int)==48)=false:=by
           have:¬(S[0]).toNat=48:=fun e=>t3 (UInt8.toNat_inj.1 e)
           rw[beq_eq_false_iff_ne];omega
          have z:Hid (l.getD 0 0≠48):=Qh (by rw[←Y.out,oK S 0 (by omega)];exact t3);have t4:((k:Int)==(S.size:Int))=false:=by rw[beq_eq_false_iff_ne];omega
          clear t3
          by_cases t5:(C:Int)=32
          ·have t5b:((C:Int) != 32)=false:=by simp;omega
           have J:Hid (l.getD k 0=32):=Qh (UInt8.toNat_inj.1 (by rw[HC.out];show C=32;omega));clear t5
           have zR:Hid (¬(jd l<1∨7<jd l∨l.getD 0 0=48∨jd l=l.length∨l.getD (jd l) 0≠32)):=Qh (by
            rw[I.out];rintro(e|e|e|e|e)
            ·omega
            ·omega
            ·exact z.out e
            ·have:=H.out;omega
            ·exact e J.out)
           obtain⟨N,hN⟩:∃N,N=ki (l.take k):=⟨_,rfl⟩
           have d:=zc l
           have HWV:Hid (lq (bA (S.extract 0 k).data.toList)=.tuple #[.int .i64 (N:Int),.bool true]):=Qh (by
            rw[sw,Y.out,List.drop_zero,Nat.sub_zero];have h1:(l.take k).length=k:=by rw[Qg];have:=H.out;omega
            unfold bA;rw[if_neg (by rw[h1];omega),if_pos (List.all_eq_true.2 (by rw[←I.out];exact d.2)),←hN]
            rfl)
           obtain⟨t,y⟩:=Dk (R:=5) (T:=9) zR.out;rw[I.out,←hN]at t y;have WB:=Qh t;have Ik:=Qh y;have Th:=Qh hN;clear hN d t y;have uj:(k:Int)≤(S.size:Int):=by omega
           go_wp2_with fail
           refine(sR (S.extract 0 k) wr).mono ?_;rintro e w' ⟨rfl,rfl⟩;rw[HWV.out]
           by_cases u1:(S.size:Int)<(N:Int)
           ·have G:=Qh u1
            have E:Hid (aO 5 9 bs=([],5)):=Qh (D.out 5 (by exact WB.out (.inl (by have:=H.out;omega))));go_wp2;go_ret2;exact bD 5 9 bs w _ 5 E.out B.out
           ·by_cases u2:(N:Int)<(k:Int)+4
            ·have G:=Qh u2
             have E:Hid (aO 5 9 bs=([],5)):=Qh (D.out 5 (by exact WB.out (.inr (.inl (by omega)))));go_wp2;go_ret2;exact bD 5 9 bs w _ 5 E.out B.out
            ·obtain⟨M,hM⟩:∃M,N=M+1:=⟨N - 1,by omega⟩
             subst hM;have O:M<S.size:=by omega
             have hkM:k+1≤M:=by omega
             have aB2:(k:Int)+1≤(M:Int):=by omega
             have az9:(M:Int)≤(S.size:Int):=by omega
             have hMa:((M+1:Nat):Int) - 1=(M:Int):=by omega
             have Tp:Hid (l.getD M 0=S[M]):=Qh (by rw[←Y.out,oK S M O])
             by_cases u3:S[M]=10
             ·have u3b:(((S[M]).toNat:Int) != 10)=false:=by rw[u3];rfl
              have L:Hid (¬(l.length<M+1∨M+1<k+4∨l.getD (M+1 - 1) 0≠10)):=Qh (by
               rintro(e|e|e)
               ·have:=H.out;omega
               ·omega
               ·exact e (by rw[Nat.add_sub_cancel,Tp.out,u3]))
              clear u3;have sl:=FR S k M hkM (Nat.le_of_lt O);obtain⟨X,hX⟩:∃X,S.extract (k+1) M=X:=⟨_,rfl⟩
              rw[hX]at sl;have qh:Hid (X.data.toList=(l.drop (k+1)).take (M+1 - 1 - (k+1))):=Qh (by rw[←hX,sw,Y.out,Nat.add_sub_cancel]);have U:=Qh (Ik.out L.out X.data.toList qh.out)
              have hXs:(X.size:Int)≤1000000000000:=by
               have h1:=jv X;rw[qh.out,Qg,Qe]at h1;omega
              go_wp2_with fail
              go_loop [10,11] (fun a b=>∃(i:Nat),i≤X.size∧a=.int .i64 (-1)∧b=.int .i64 (i:Int)∧Hid (∀j,j<i→X.data.toList.getD j 0≠61)) (fun _ b=>X.size - (RowKit.intOf b).toNat)
              case atStart=>exact⟨0,Nat.zero_le _,rfl,rfl,Qh (fun j A=>absurd A (by omega))⟩
              case round=>
               obtain⟨i,hi,rfl,rfl,oH⟩:=hrel
               by_cases QV:i<X.size
               ·have xE:Hid (X[i]=X.data.toList.getD i 0):=Qh (oK X i QV).symm
                by_cases V:X[i]=61
                ·have b61:(((X[i]).toNat:Int)==61)=true:=by rw[V];rfl
                 have Ta:Hid (indexByte X.data.toList 61=i):=Qh (Jr _ 61 i (by rw[←jv];exact QV) oH.out (by rw[←xE.out];exact V));clear V
                 by_cases i1:(i:Int)<1
                 ·have G:=Qh i1
                  have E:Hid (aO 5 9 bs=([],5)):=Qh (D.out 5 (by exact U.out.1 (by rw[Ta.out];exact G.out)));go_wp2;go_ret2;exact bD 5 9 bs w _ 5 E.out B.out
                 ·have q:Hid (1≤indexByte X.data.toList 61):=Qh (by rw[Ta.out];omega)
                  cases W:aQ X.data.toList with
                  |false=>
                   have HTX:Hid (aZ 5 9 l=.error 9):=Qh (by first|exact U.out.2.1 q.out W|exact U.out.2.1 (Int.not_lt.2 q.out) W);go_wp2_with fail;refine(qJ X wr (by omega)).mono ?_;rw[W];rintro e w' ⟨rfl,rfl⟩;have E:Hid (aO 5 9 bs=([],9)):=Qh (D.out 9 (by exact HTX.out));go_wp2;go_ret2;exact bD 5 9 bs w _ 9 E.out B.out
                  |true=>
                   have r:aZ 5 9 l=.ok (X.data.toList.take i,X.data.toList.drop (i+1),M+1):=by
                    have h1:aZ 5 9 l=.ok (X.data.toList.take (indexByte X.data.toList 61).toNat,X.data.toList.drop ((indexByte X.data.toList 61).toNat+1),M+1):=by first|exact U.out.2.2 q.out W|exact U.out.2.2 (Int.not_lt.2 q.out) W
                    rw[Ta.out,Int.toNat_natCast]at h1;exact h1
                   have s2:=ve S M O;rw[Y.out]at s2;obtain⟨kk,m⟩:∃kk,X.data.toList.take i=kk:=⟨_,rfl⟩
                   obtain⟨vv,SY⟩:∃vv,X.data.toList.drop (i+1)=vv:=⟨_,rfl⟩
                   rw[m]at r;rw[SY]at r;have Z:Hid (X.extract 0 i=str kk∧X.extract (i+1) X.size=str vv):=Qh ⟨by rw[Oh,List.drop_zero,Nat.sub_zero,m],by rw[Gs,SY]⟩;have DN:Hid (lg 5 9 (l.drop (M+1)) (acc++[(kk,vv)])=aO 5 9 bs):=Qh (by rw[←hr.out,kM 5 9 l vT.out,r]);clear m SY r;go_wp2_with fail;refine(qJ X wr (by omega)).mono ?_;rw[W];rintro e w' ⟨rfl,rfl⟩;have DX:Hid (World.ownsRow (wr.drew.alloc (.cells #[.string (X.extract 0 i),.string (X.extract (i+1) X.size)] 121)) w.heap.size 121 2 u4 acc.length (iQ acc)):=Qh (World.ownsRow.alloc (w:=wr.drew) aK.out _);have sU:Hid (Below w.heap.size w (wr.drew.alloc (.cells #[.string (X.extract 0 i),.string (X.extract (i+1) X.size)] 121))):=Qh ((below_drewN B.out 1).alloc B.out.size _)
                   have yL:Hid (∀j u,([Value.string (X.extract 0 i),.string (X.extract (i+1) X.size)]:List Value)[j]? =some u→(wr.drew.alloc (.cells #[.string (X.extract 0 i),.string (X.extract (i+1) X.size)] 121)).cell? ((⟨wr.heap.size,0,none⟩:Addr).add j)=some u):=Qh (fun j u A=>by
                    obtain⟨g0,g1⟩:=wY wr.drew 121 (.string (X.extract 0 i)) (.string (X.extract (i+1) X.size))
                    match j,A with
                    |0,A=>cases A;exact g0
                    |1,A=>cases A;exact g1
                    |j+2,A=>simp at A)
                   have Pk:Hid (acc.length+1≤1000000000001):=Qh (by have:=hlen.out;omega);have Tm:Hid (w.heap.size≤(wr.drew.alloc (.cells #[.string (X.extract 0 i),.string (X.extract (i+1) X.size)] 121)).heap.size):=Qh sU.out.size;have t:(0:Int)≤(i:Int):=by omega
                   have y:(i:Int)≤(X.size:Int):=by omega
                   have q3:(0:Int)≤(i:Int)+1:=by omega
                   have q4:(i:Int)+1≤(X.size:Int):=by omega
                   have q5:IntKind.i64.wrap ((i:Int)+1)=(i:Int)+1:=by rw[IntKind.wrap_i64];omega
                   go_wp2_with fail
                   go_region_held_law (fun w'=>w'.os=w'.os) (rfl) (first
                    |(refine uc (by kernel_rfl) _ _ 64 rfl w.heap.size 121 i0 (.agg #[.string ⟨#[]⟩,.string ⟨#[]⟩]) 2 32 Tryz.underlying64 HI.out rC.out pX.out pD.out rfl (by decide) u4 acc.length (iQ acc) rfl DX.out ⟨wr.heap.size,0,none⟩ 1 1 [.string (X.extract 0 i),.string (X.extract (i+1) X.size)] rfl rfl yL.out ?_ ?_ ?_ Tm.out ?_
                      (intro u hu;rcases List.mem_cons.1 hu with rfl|hu;rfl;rcases List.mem_cons.1 hu with rfl|hu;rfl;cases hu)
                      (have:=Pk.out;unfold maxLen;omega)
                      (have:=Pk.out;omega)
                      intro v' w1 oI aU _)
                    |fail)
                   have Iv:Hid (w1.ownsRow w.heap.size 121 2 v' (acc++[(kk,vv)]).length (iQ (acc++[(kk,vv)]))):=Qh (by
                    rw[xc,Qf,←Z.out.1,←Z.out.2];exact oI)
                   have yP:Hid (Below w.heap.size w w1):=Qh (sU.out.grown aU sU.out.size (fun b hb=>by
                    rcases DX.out.2 with⟨rfl,_⟩|⟨g,cap,cur,rfl,cj,_⟩
                    ·cases hb
                    ·cases hb;exact cj))
                   clear oI aU;simp only[List.getElem_toArray,List.getElem_cons_succ,List.getElem_cons_zero];simp only[List.setIfInBounds_toArray,List.set_cons_succ,List.set_cons_zero];go_wp2_with fail;go_roundw
                   case rel=>exact⟨l.drop (M+1),acc++[(kk,vv)],rfl,Iv,DN,Qh (by have h1:=H.out;have h2:=hlen.out;rw[Qf,Qe];simp only[List.length_cons,List.length_nil];omega),yP⟩
                   case measure=>have h1:=H.out;simp only[ax,Qe];omega
                ·have b61:(((X[i]).toNat:Int)==61)=false:=by
                  have:¬(X[i]).toNat=61:=fun e=>V (UInt8.toNat_inj.1 e)
                  rw[beq_eq_false_iff_ne];omega
                 have kE:Hid (∀j,j<i+1→X.data.toList.getD j 0≠61):=Qh (fun j A=>by
                  rcases Nat.lt_succ_iff_lt_or_eq.1 A with h|rfl
                  ·exact oH.out j h
                  ·rw[←xE.out];exact V)
                 clear V;go_wp2
                 go_round
                 case rel=>exact⟨i+1,by omega,rfl,by go_num,kE⟩
                 case measure=>simp[RowKit.intOf];omega
               ·have G:Hid (indexByte X.data.toList 61<1):=Qh (E9 _ 61 (fun j A=>oH.out j (by rw[←jv]at A;omega)))
                have E:Hid (aO 5 9 bs=([],5)):=Qh (D.out 5 (by exact U.out.1 G.out));go_wp2;go_ret2;exact bD 5 9 bs w _ 5 E.out B.out
             ·have u3b:(((S[M]).toNat:Int) != 10)=true:=by
               have:¬(S[M]).toNat=10:=fun e=>u3 (UInt8.toNat_inj.1 e)
               simp;omega
              have L:Hid (l.getD (M+1 - 1) 0≠10):=Qh (by rw[Nat.add_sub_cancel,Tp.out];exact u3);clear u3;have E:Hid (aO 5 9 bs=([],5)):=Qh (D.out 5 (by exact WB.out (.inr (.inr L.out))));go_wp2;go_ret2;exact bD 5 9 bs w _ 5 E.out B.out
          ·have t5b:((C:Int) != 32)=true:=by simp;omega
           have J:Hid (l.getD k 0≠32):=Qh (fun e=>t5 (by have:=congrArg UInt8.toNat e;rw[HC.out]at this;rw[this];rfl));clear t5;have E:Hid (aO 5 9 bs=([],5)):=Qh (D.out 5 (by unfold aZ;rw[I.out,if_pos (.inr (.inr (.inr (.inr J.out))))]));go_wp2;go_ret2;exact bD 5 9 bs w _ 5 E.out B.out
     ·have I:Hid (jd l=k):=Qh (xW l k (by rw[←H.out];exact hk) hd.out (.inr (by simp only[aN,HC.out,decide_eq_false_iff_not];omega)))
      by_cases t1:(k:Int)<1
      ·have G:=Qh t1
       have E:Hid (aO 5 9 bs=([],5)):=Qh (D.out 5 (by unfold aZ;rw[I.out,if_pos (.inl (by omega))]));go_wp2;go_ret2;exact bD 5 9 bs w _ 5 E.out B.out
      ·by_cases t2:(7:Int)<(k:Int)
       ·have G:=Qh t2
        have E:Hid (aO 5 9 bs=([],5)):=Qh (D.out 5 (by unfold aZ;rw[I.out,if_pos (.inr (.inl (by omega)))]));go_wp2;go_ret2;exact bD 5 9 bs w _ 5 E.out B.out
       ·by_cases t3:S[0]=48
        ·have f:(((S[0]).toNat:Int)==48)=true:=by rw[t3];rfl
         have G:Hid (l.getD 0 0=48):=Qh (by rw[←Y.out,oK S 0 (by omega)];exact t3);clear t3;have E:Hid (aO 5 9 bs=([],5)):=Qh (D.out 5 (by unfold aZ;rw[I.out,if_pos (.inr (.inr (.inl G.out)))]));go_wp2;go_ret2;exact bD 5 9 bs w _ 5 E.out B.out
        ·have f:(((S[0]).toNat:Int)==48)=false:=by
          have:¬(S[0]).toNat=48:=fun e=>t3 (UInt8.toNat_inj.1 e)
          rw[beq_eq_false_iff_ne];omega
         have z:Hid (l.getD 0 0≠48):=Qh (by rw[←Y.out,oK S 0 (by omega)];exact t3);have t4:((k:Int)==(S.size:Int))=false:=by rw[beq_eq_false_iff_ne];omega
         clear t3
         by_cases t5:(C:Int)=32
         ·have t5b:((C:Int) != 32)=false:=by simp;omega
          have J:Hid (l.getD k 0=32):=Qh (UInt8.toNat_inj.1 (by rw[HC.out];show C=32;omega));clear t5
          have zR:Hid (¬(jd l<1∨7<jd l∨l.getD 0 0=48∨jd l=l.length∨l.getD (jd l) 0≠32)):=Qh (by
           rw[I.out];rintro(e|e|e|e|e)
           ·omega
           ·omega
           ·exact z.out e
           ·have:=H.out;omega
           ·exact e J.out)
          obtain⟨N,hN⟩:∃N,N=ki (l.take k):=⟨_,rfl⟩
          have d:=zc l
          have HWV:Hid (lq (bA (S.extract 0 k).data.toList)=.tuple #[.int .i64 (N:Int),.bool true]):=Qh (by
           rw[sw,Y.out,List.drop_zero,Nat.sub_zero];have h1:(l.take k).length=k:=by rw[Qg];have:=H.out;omega
           unfold bA;rw[if_neg (by rw[h1];omega),if_pos (List.all_eq_true.2 (by rw[←I.out];exact d.2)),←hN]
           rfl)
          obtain⟨t,y⟩:=Dk (R:=5) (T:=9) zR.out;rw[I.out,←hN]at t y;have WB:=Qh t;have Ik:=Qh y;have Th:=Qh hN;clear hN d t y;have uj:(k:Int)≤(S.size:Int):=by omega
          go_wp2_with fail
          refine(sR (S.extract 0 k) wr).mono ?_;rintro e w' ⟨rfl,rfl⟩;rw[HWV.out]
          by_cases u1:(S.size:Int)<(N:Int)
          ·have G:=Qh u1
           have E:Hid (aO 5 9 bs=([],5)):=Qh (D.out 5 (by exact WB.out (.inl (by have:=H.out;omega))));go_wp2;go_ret2;exact bD 5 9 bs w _ 5 E.out B.out
          ·by_cases u2:(N:Int)<(k:Int)+4
           ·have G:=Qh u2
            have E:Hid (aO 5 9 bs=([],5)):=Qh (D.out 5 (by exact WB.out (.inr (.inl (by omega)))));go_wp2;go_ret2;exact bD 5 9 bs w _ 5 E.out B.out
           ·obtain⟨M,hM⟩:∃M,N=M+1:=⟨N - 1,by omega⟩
            subst hM;have O:M<S.size:=by omega
            have hkM:k+1≤M:=by omega
            have aB2:(k:Int)+1≤(M:Int):=by omega
            have az9:(M:Int)≤(S.size:Int):=by omega
            have hMa:((M+1:Nat):Int) - 1=(M:Int):=by omega
            have Tp:Hid (l.getD M 0=S[M]):=Qh (by rw[←Y.out,oK S M O])
            by_cases u3:S[M]=10
            ·have u3b:(((S[M]).toNat:Int) != 10)=false:=by rw[u3];rfl
             have L:Hid (¬(l.length<M+1∨M+1<k+4∨l.getD (M+1 - 1) 0≠10)):=Qh (by
              rintro(e|e|e)
              ·have:=H.out;omega
              ·omega
              ·exact e (by rw[Nat.add_sub_cancel,Tp.out,u3]))
             clear u3;have sl:=FR S k M hkM (Nat.le_of_lt O);obtain⟨X,hX⟩:∃X,S.extract (k+1) M=X:=⟨_,rfl⟩
             rw[hX]at sl;have qh:Hid (X.data.toList=(l.drop (k+1)).take (M+1 - 1 - (k+1))):=Qh (by rw[←hX,sw,Y.out,Nat.add_sub_cancel]);have U:=Qh (Ik.out L.out X.data.toList qh.out)
             have hXs:(X.size:Int)≤1000000000000:=by
              have h1:=jv X;rw[qh.out,Qg,Qe]at h1;omega
             go_wp2_with fail
             go_loop [10,11] (fun a b=>∃(i:Nat),i≤X.size∧a=.int .i64 (-1)∧b=.int .i64 (i:Int)∧Hid (∀j,j<i→X.data.toList.getD j 0≠61)) (fun _ b=>X.size - (RowKit.intOf b).toNat)
             case atStart=>exact⟨0,Nat.zero_le _,rfl,rfl,Qh (fun j A=>absurd A (by omega))⟩
             case round=>
              obtain⟨i,hi,rfl,rfl,oH⟩:=hrel
              by_cases QV:i<X.size
              ·have xE:Hid (X[i]=X.data.toList.getD i 0):=Qh (oK X i QV).symm
               by_cases V:X[i]=61
               ·have b61:(((X[i]).toNat:Int)==61)=true:=by rw[V];rfl
                have Ta:Hid (indexByte X.data.toList 61=i):=Qh (Jr _ 61 i (by rw[←jv];exact QV) oH.out (by rw[←xE.out];exact V));clear V
                by_cases i1:(i:Int)<1
                ·have G:=Qh i1
                 have E:Hid (aO 5 9 bs=([],5)):=Qh (D.out 5 (by exact U.out.1 (by rw[Ta.out];exact G.out)));go_wp2;go_ret2;exact bD 5 9 bs w _ 5 E.out B.out
                ·have q:Hid (1≤indexByte X.data.toList 61):=Qh (by rw[Ta.out];omega)
                 cases W:aQ X.data.toList with
                 |false=>
                  have HTX:Hid (aZ 5 9 l=.error 9):=Qh (by first|exact U.out.2.1 q.out W|exact U.out.2.1 (Int.not_lt.2 q.out) W);go_wp2_with fail;refine(qJ X wr (by omega)).mono ?_;rw[W];rintro e w' ⟨rfl,rfl⟩;have E:Hid (aO 5 9 bs=([],9)):=Qh (D.out 9 (by exact HTX.out));go_wp2;go_ret2;exact bD 5 9 bs w _ 9 E.out B.out
                 |true=>
                  have r:aZ 5 9 l=.ok (X.data.toList.take i,X.data.toList.drop (i+1),M+1):=by
                   have h1:aZ 5 9 l=.ok (X.data.toList.take (indexByte X.data.toList 61).toNat,X.data.toList.drop ((indexByte X.data.toList 61).toNat+1),M+1):=by first|exact U.out.2.2 q.out W|exact U.out.2.2 (Int.not_lt.2 q.out) W
                   rw[Ta.out,Int.toNat_natCast]at h1;exact h1
                  have s2:=ve S M O;rw[Y.out]at s2;obtain⟨kk,m⟩:∃kk,X.data.toList.take i=kk:=⟨_,rfl⟩
                  obtain⟨vv,SY⟩:∃vv,X.data.toList.drop (i+1)=vv:=⟨_,rfl⟩
                  rw[m]at r;rw[SY]at r;have Z:Hid (X.extract 0 i=str kk∧X.extract (i+1) X.size=str vv):=Qh ⟨by rw[Oh,List.drop_zero,Nat.sub_zero,m],by rw[Gs,SY]⟩;have DN:Hid (lg 5 9 (l.drop (M+1)) (acc++[(kk,vv)])=aO 5 9 bs):=Qh (by rw[←hr.out,kM 5 9 l vT.out,r]);clear m SY r;go_wp2_with fail;refine(qJ X wr (by omega)).mono ?_;rw[W];rintro e w' ⟨rfl,rfl⟩;have DX:Hid (World.ownsRow (wr.drew.alloc (.cells #[.string (X.extract 0 i),.string (X.extract (i+1) X.size)] 121)) w.heap.size 121 2 u4 acc.length (iQ acc)):=Qh (World.ownsRow.alloc (w:=wr.drew) aK.out _);have sU:Hid (Below w.heap.size w (wr.drew.alloc (.cells #[.string (X.extract 0 i),.string (X.extract (i+1) X.size)] 121))):=Qh ((below_drewN B.out 1).alloc B.out.size _)
                  have yL:Hid (∀j u,([Value.string (X.extract 0 i),.string (X.extract (i+1) X.size)]:List Value)[j]? =some u→(wr.drew.alloc (.cells #[.string (X.extract 0 i),.string (X.extract (i+1) X.size)] 121)).cell? ((⟨wr.heap.size,0,none⟩:Addr).add j)=some u):=Qh (fun j u A=>by
                   obtain⟨g0,g1⟩:=wY wr.drew 121 (.string (X.extract 0 i)) (.string (X.extract (i+1) X.size))
                   match j,A with
                   |0,A=>cases A;exact g0
                   |1,A=>cases A;exact g1
                   |j+2,A=>simp at A)
                  have Pk:Hid (acc.length+1≤1000000000001):=Qh (by have:=hlen.out;omega);have Tm:Hid (w.heap.size≤(wr.drew.alloc (.cells #[.string (X.extract 0 i),.string (X.extract (i+1) X.size)] 121)).heap.size):=Qh sU.out.size;have t:(0:Int)≤(i:Int):=by omega
                  have y:(i:Int)≤(X.size:Int):=by omega
                  have q3:(0:Int)≤(i:Int)+1:=by omega
                  have q4:(i:Int)+1≤(X.size:Int):=by omega
                  have q5:IntKind.i64.wrap ((i:Int)+1)=(i:Int)+1:=by rw[IntKind.wrap_i64];omega
                  go_wp2_with fail
                  go_region_held_law (fun w'=>w'.os=w'.os) (rfl) (first
                   |(refine uc (by kernel_rfl) _ _ 64 rfl w.heap.size 121 i0 (.agg #[.string ⟨#[]⟩,.string ⟨#[]⟩]) 2 32 Tryz.underlying64 HI.out rC.out pX.out pD.out rfl (by decide) u4 acc.length (iQ acc) rfl DX.out ⟨wr.heap.size,0,none⟩ 1 1 [.string (X.extract 0 i),.string (X.extract (i+1) X.size)] rfl rfl yL.out ?_ ?_ ?_ Tm.out ?_
                     (intro u hu;rcases List.mem_cons.1 hu with rfl|hu;rfl;rcases List.mem_cons.1 hu with rfl|hu;rfl;cases hu)
                     (have:=Pk.out;unfold maxLen;omega)
                     (have:=Pk.out;omega)
                     intro v' w1 oI aU _)
                   |fail)
                  have Iv:Hid (w1.ownsRow w.heap.size 121 2 v' (acc++[(kk,vv)]).length (iQ (acc++[(kk,vv)]))):=Qh (by
                   rw[xc,Qf,←Z.out.1,←Z.out.2];exact oI)
                  have yP:Hid (Below w.heap.size w w1):=Qh (sU.out.grown aU sU.out.size (fun b hb=>by
                   rcases DX.out.2 with⟨rfl,_⟩|⟨g,cap,cur,rfl,cj,_⟩
                   ·cases hb
                   ·cases hb;exact cj))
                  clear oI aU;simp only[List.getElem_toArray,List.getElem_cons_succ,List.getElem_cons_zero];simp only[List.setIfInBounds_toArray,List.set_cons_succ,List.set_cons_zero];go_wp2_with fail;go_roundw
                  case rel=>exact⟨l.drop (M+1),acc++[(kk,vv)],rfl,Iv,DN,Qh (by have h1:=H.out;have h2:=hlen.out;rw[Qf,Qe];simp only[List.length_cons,List.length_nil];omega),yP⟩
                  case measure=>have h1:=H.out;simp only[ax,Qe];omega
               ·have b61:(((X[i]).toNat:Int)==61)=false:=by
                 have:¬(X[i]).toNat=61:=fun e=>V (UInt8.toNat_inj.1 e)
                 rw[beq_eq_false_iff_ne];omega
                have kE:Hid (∀j,j<i+1→X.data.toList.getD j 0≠61):=Qh (fun j A=>by
                 rcases Nat.lt_succ_iff_lt_or_eq.1 A with h|rfl
                 ·exact oH.out j h
                 ·rw[←xE.out];exact V)
                clear V;go_wp2
                go_round
                case rel=>exact⟨i+1,by omega,rfl,by go_num,kE⟩
                case measure=>simp[RowKit.intOf];omega
              ·have G:Hid (indexByte X.data.toList 61<1):=Qh (E9 _ 61 (fun j A=>oH.out j (by rw[←jv]at A;omega)))
               have E:Hid (aO 5 9 bs=([],5)):=Qh (D.out 5 (by exact U.out.1 G.out));go_wp2;go_ret2;exact bD 5 9 bs w _ 5 E.out B.out
            ·have u3b:(((S[M]).toNat:Int) != 10)=true:=by
              have:¬(S[M]).toNat=10:=fun e=>u3 (UInt8.toNat_inj.1 e)
              simp;omega
             have L:Hid (l.getD (M+1 - 1) 0≠10):=Qh (by rw[Nat.add_sub_cancel,Tp.out];exact u3);clear u3;have E:Hid (aO 5 9 bs=([],5)):=Qh (D.out 5 (by exact WB.out (.inr (.inr L.out))));go_wp2;go_ret2;exact bD 5 9 bs w _ 5 E.out B.out
         ·have t5b:((C:Int) != 32)=true:=by simp;omega
          have J:Hid (l.getD k 0≠32):=Qh (fun e=>t5 (by have:=congrArg UInt8.toNat e;rw[HC.out]at this;rw[this];rfl));clear t5;have E:Hid (aO 5 9 bs=([],5)):=Qh (D.out 5 (by unfold aZ;rw[I.out,if_pos (.inr (.inr (.inr (.inr J.out))))]));go_wp2;go_ret2;exact bD 5 9 bs w _ 5 E.out B.out
    ·have I:Hid (jd l=k):=Qh (xW l k (by rw[←H.out];exact hk) hd.out (.inl (by rw[←H.out];omega)))
     have uh:¬((k:Int)<(S.size:Int)):=by omega
     by_cases t1:(k:Int)<1
     ·have G:=Qh t1
      have E:Hid (aO 5 9 bs=([],5)):=Qh (D.out 5 (by unfold aZ;rw[I.out,if_pos (.inl (by omega))]));go_wp2;go_ret2;exact bD 5 9 bs w _ 5 E.out B.out
     ·by_cases t2:(7:Int)<(k:Int)
      ·have G:=Qh t2
       have E:Hid (aO 5 9 bs=([],5)):=Qh (D.out 5 (by unfold aZ;rw[I.out,if_pos (.inr (.inl (by omega)))]));go_wp2;go_ret2;exact bD 5 9 bs w _ 5 E.out B.out
      ·have m:Hid (jd l=l.length):=Qh (by rw[I.out,←H.out];omega)
       by_cases t3:S[0]=48
       ·have f:(((S[0]).toNat:Int)==48)=true:=by rw[t3];rfl
        clear t3;have E:Hid (aO 5 9 bs=([],5)):=Qh (D.out 5 (by unfold aZ;rw[if_pos (.inr (.inr (.inr (.inl m.out))))]));go_wp2;go_ret2;exact bD 5 9 bs w _ 5 E.out B.out
       ·have f:(((S[0]).toNat:Int)==48)=false:=by
         have:¬(S[0]).toNat=48:=fun e=>t3 (UInt8.toNat_inj.1 e)
         rw[beq_eq_false_iff_ne];omega
        have t4:((k:Int)==(S.size:Int))=true:=by simp;omega
        clear t3;have E:Hid (aO 5 9 bs=([],5)):=Qh (D.out 5 (by unfold aZ;rw[if_pos (.inr (.inr (.inr (.inl m.out))))]));go_wp2;go_ret2;exact bD 5 9 bs w _ 5 E.out B.out
end Rec
namespace Head
open Hp Go.Proofs.YtdhibldkldlfpaaGreatDoor.Mp
variable {a0:Act} {Q':Exit→Act→World→Prop} {w3:World}
noncomputable def bp:Array Oper:=uZ Tryz.f74 13
def pV (B Q:Nat) (mg nm ln:ByteArray) (j7:Bool) (kd v1 v2 v3 v4 v5:Int):Nat→Value
 |0=>.map (some B)|1=>.string mg|2=>.bool j7|3=>.string nm|4=>.map (some B)|5=>.string ln|6=>.map (some B)|7=>.int .u8 kd
 |8=>.map (some Q)|9=>.int .i64 v1|10=>.map (some Q)|11=>.int .i64 v2|12=>.map (some Q)|13=>.int .i64 v3|14=>.map (some Q)|15=>.int .i64 v5
 |16=>.agg #[.int .i64 v1,.int .i64 v2,.int .i64 v3,.int .i64 v5]|17=>.map (some Q)|18=>.int .i64 v4|19=>.string mg|20=>.bool j7
 |21=>.agg #[.string nm,.string ln,.int .u8 kd,.int .i64 v1,.int .i64 v2,.int .i64 v3,.int .i64 v5,.int .i64 v4,.bool j7]|23=>.int .i64 0|_=>undef
theorem Da:bp.size=24:=rfl
theorem JY:wP bp 73=true:=by kernel_rfl
theorem aE7:∃o,bp[0]? =some o∧o.op=.move (.tmp 4)∧o.dst=some 51:=⟨_,rfl,rfl,rfl⟩
theorem aE8:∃o,bp[1]? =some o∧o.op=.move (.tmp 7)∧o.dst=some 52:=⟨_,rfl,rfl,rfl⟩
theorem aE9:∃o,bp[2]? =some o∧o.op=.binOp .eql 9 (.tmp 52) (.const (.string ⟨#[117,115,116,97,114,32,32,0]⟩)) 9∧o.dst=some 53:=⟨_,rfl,rfl,rfl⟩
theorem aF0:∃o,bp[3]? =some o∧o.op=.call {callee:=.value (.func 105),args:=#[.tmp 51,.tmp 53],argTypes:=#[166,4]}∧o.dst=some 54:=⟨_,rfl,rfl,rfl⟩
theorem aF1:∃o,bp[4]? =some o∧o.op=.move (.tmp 4)∧o.dst=some 55:=⟨_,rfl,rfl,rfl⟩
theorem aF2:∃o,bp[5]? =some o∧o.op=.call {callee:=.value (.func 106),args:=#[.tmp 55,.const (.int .i64 8)],argTypes:=#[166,170]}∧o.dst=some 56:=⟨_,rfl,rfl,rfl⟩
theorem aF3:∃o,bp[6]? =some o∧o.op=.move (.tmp 4)∧o.dst=some 57:=⟨_,rfl,rfl,rfl⟩
theorem aF4:∃o,bp[7]? =some o∧o.op=.call {callee:=.value (.func 107),args:=#[.tmp 57],argTypes:=#[166]}∧o.dst=some 58:=⟨_,rfl,rfl,rfl⟩
theorem pop8:∃o,bp[8]? =some o∧o.op=.move (.tmp 8)∧o.dst=some 59:=⟨_,rfl,rfl,rfl⟩
theorem aF5:∃o,bp[9]? =some o∧o.op=.lookup 171 (.tmp 59) (.const (.int .i64 1)) false∧o.dst=some 60:=⟨_,rfl,rfl,rfl⟩
theorem at0:∃o,bp[10]? =some o∧o.op=.move (.tmp 8)∧o.dst=some 61:=⟨_,rfl,rfl,rfl⟩
theorem at1:∃o,bp[11]? =some o∧o.op=.lookup 171 (.tmp 61) (.const (.int .i64 2)) false∧o.dst=some 62:=⟨_,rfl,rfl,rfl⟩
theorem at2:∃o,bp[12]? =some o∧o.op=.move (.tmp 8)∧o.dst=some 63:=⟨_,rfl,rfl,rfl⟩
theorem at3:∃o,bp[13]? =some o∧o.op=.lookup 171 (.tmp 63) (.const (.int .i64 3)) false∧o.dst=some 64:=⟨_,rfl,rfl,rfl⟩
theorem at4:∃o,bp[14]? =some o∧o.op=.move (.tmp 8)∧o.dst=some 65:=⟨_,rfl,rfl,rfl⟩
theorem at5:∃o,bp[15]? =some o∧o.op=.lookup 171 (.tmp 65) (.const (.int .i64 5)) false∧o.dst=some 66:=⟨_,rfl,rfl,rfl⟩
theorem at6:∃o,bp[16]? =some o∧o.op=.build 46 #[(0,.tmp 60),(1,.tmp 62),(2,.tmp 64),(3,.tmp 66)]∧o.dst=some 67:=⟨_,rfl,rfl,rfl⟩
theorem at7:∃o,bp[17]? =some o∧o.op=.move (.tmp 8)∧o.dst=some 68:=⟨_,rfl,rfl,rfl⟩
theorem au0:∃o,bp[18]? =some o∧o.op=.lookup 171 (.tmp 68) (.const (.int .i64 4)) false∧o.dst=some 69:=⟨_,rfl,rfl,rfl⟩
theorem au1:∃o,bp[19]? =some o∧o.op=.move (.tmp 7)∧o.dst=some 70:=⟨_,rfl,rfl,rfl⟩
theorem au2:∃o,bp[20]? =some o∧o.op=.binOp .eql 9 (.tmp 70) (.const (.string ⟨#[117,115,116,97,114,32,32,0]⟩)) 9∧o.dst=some 71:=⟨_,rfl,rfl,rfl⟩
theorem au3:∃o,bp[21]? =some o∧o.op=.build 66 #[(0,.tmp 54),(1,.tmp 56),(2,.tmp 58),(3,.tmp 67),(4,.tmp 69),(5,.tmp 71)]∧o.dst=some 72:=⟨_,rfl,rfl,rfl⟩
theorem au4:∃o,bp[22]? =some o∧o.op=.store 66 (.tmp 2) (.tmp 72)∧o.dst=none:=⟨_,rfl,rfl,rfl⟩
theorem aa1:∃o,bp[23]? =some o∧o.op=.assign (.const (.int .i64 0))∧o.dst=some 3:=⟨_,rfl,rfl,rfl⟩
theorem Lw (w:World) (a b c d:Int):(Instr.build 46 #[(0,.int .i64 a),(1,.int .i64 b),(2,.int .i64 c),(3,.int .i64 d)]).run Tryz.prog w=.ok (.agg #[.int .i64 a,.int .i64 b,.int .i64 c,.int .i64 d]) w:=by kernel_rfl
theorem Lv (w:World) (n l:ByteArray) (k a b c d s:Int) (g:Bool):(Instr.build 66 #[(0,.string n),(1,.string l),(2,.int .u8 k),(3,.agg #[.int .i64 a,.int .i64 b,.int .i64 c,.int .i64 d]),(4,.int .i64 s),(5,.bool g)]).run Tryz.prog w=.ok (.agg #[.string n,.string l,.int .u8 k,.int .i64 a,.int .i64 b,.int .i64 c,.int .i64 d,.int .i64 s,.bool g]) w:=by kernel_rfl
theorem F8 {K:Act→World→Prop} {Q:Exit→Act→World→Prop} (p x:Operand) (ho:o.op=.store 66 p x) (g:Nat) (hp:a.eval p=.pointer (some ⟨g,0,none⟩)) (n l:ByteArray) (k m u i t s:Int) (b:Bool)
 (hx:a.eval x=.agg #[.string n,.string l,.int .u8 k,.int .i64 m,.int .i64 u,.int .i64 i,.int .i64 t,.int .i64 s,.bool b]) (hz:w.heap[g]? =some (.cells jD 66 (0,0)))
 (h:∀w',w'.heap[g]? =some (.cells #[.string n,.string l,.int .u8 k,.int .i64 m,.int .i64 u,.int .i64 i,.int .i64 t,.int .i64 s,.bool b] 66 (0,0))→Kept (aA g) w w'→K (a.put o.dst undef) w'):Oper.wp Tryz.prog o a w K Q:=by
 have c0:=bC hz;have f0:=ct hz;have A:=oQ hz;have D:=sC (Kept.refl (aA g) w);unfold jD at c0;clear hz
 have B:(execOp a.eval o).run Tryz.prog w=.ok .skip (((((((((w.setCell ⟨g,0,none⟩ (.string n)).setCell ⟨g,1,none⟩ (.string l)).setCell ⟨g,2,none⟩ (.int .u8 k)).setCell ⟨g,3,none⟩ (.int .i64 m)).setCell ⟨g,4,none⟩ (.int .i64 u)).setCell ⟨g,5,none⟩ (.int .i64 i)).setCell ⟨g,6,none⟩ (.int .i64 t)).setCell ⟨g,7,none⟩ (.int .i64 s)).setCell ⟨g,8,none⟩ (.bool b)):=by
  generalize a.eval=ev at hp hx;simp[go_sem,execOp,ho,hp,hx,c0,f0,Result.andThen]
 unfold Oper.wp;rw[B,Oper.upon_skip];exact h _ (A _ _ _ _ _ _ _ _ _) (D _ _ _ _ _ _ _ _ _)
theorem yz (g lo B Q:Nat) (r:Nat→Nat) (own:Nat→List UInt8) (mg:ByteArray) (j7:Bool) (v1 v2 v3 v4 v5:Int)
 (hsz:73≤a0.tmps.size) (h2:a0.eval (.tmp 2)=.pointer (some ⟨g,0,none⟩)) (h4:a0.eval (.tmp 4)=.map (some B)) (h7:a0.eval (.tmp 7)=.string mg) (h8:a0.eval (.tmp 8)=.map (some Q))
 (hP:bB w3 lo B r own) (hBg:B≠g) (hrg:∀i,i<11→r i≠g) (hz:w3.heap[g]? =some (.cells jD 66 (0,0)))
 (OC:∀w',Kept (aA g) w3 w'→(Instr.lookup 171 (.map (some Q)) (.int .i64 1) false).run Tryz.prog w'=.ok (.int .i64 v1) w'∧(Instr.lookup 171 (.map (some Q)) (.int .i64 2) false).run Tryz.prog w'=.ok (.int .i64 v2) w'∧
  (Instr.lookup 171 (.map (some Q)) (.int .i64 3) false).run Tryz.prog w'=.ok (.int .i64 v3) w'∧(Instr.lookup 171 (.map (some Q)) (.int .i64 4) false).run Tryz.prog w'=.ok (.int .i64 v4) w'∧(Instr.lookup 171 (.map (some Q)) (.int .i64 5) false).run Tryz.prog w'=.ok (.int .i64 v5) w')
 (zk:(mg.toList==[117,115,116,97,114,32,32,0])=j7)
 (hQ:∀a' w',a'.defers=a0.defers→a'.eval (.tmp 2)=.pointer (some ⟨g,0,none⟩)→a'.eval (.tmp 3)=.int .i64 0→
  w'.heap[g]? =some (.cells #[.string (str (o4 (av (own 10)) (av (own 0)) j7)),.string (str (av (own 8))),.int .u8 ((Fc (own 7)).toNat:Int),.int .i64 v1,.int .i64 v2,.int .i64 v3,.int .i64 v5,.int .i64 v4,.bool j7] 66 (0,0))→Kept (aA g) w3 w'→Q' .normal a' w'):
 wpAny Tryz.prog .any bp Q' bp.size (Array.replicate bp.size false) a0 w3.drew:=by
 have no:∀j,(Array.replicate bp.size false).getD j false=false:=fun j=>by
  rw[Array.getD_eq_getD_getElem?,Array.getElem?_replicate];split<;>rfl
 obtain⟨nm,Y⟩:∃nm,nm=str (o4 (av (own 10)) (av (own 0)) j7):=⟨_,rfl⟩
 obtain⟨ln,m⟩:∃ln,ln=str (av (own 8)):=⟨_,rfl⟩
 obtain⟨kd,f⟩:∃kd:Int,kd=((Fc (own 7)).toNat:Int):=⟨_,rfl⟩
 rw[←Y,←m,←f]at hQ;obtain⟨C,c⟩:∃C:Array Value,C=#[.string nm,.string ln,.int .u8 kd,.int .i64 v1,.int .i64 v2,.int .i64 v3,.int .i64 v5,.int .i64 v4,.bool j7]:=⟨_,rfl⟩
 rw[←c]at hQ;refine xw (pV B Q mg nm ln j7 kd v1 v2 v3 v4 v5) a0 (fun listed w=>Kept (aA g) w3 w∧w.heap[g]? =some (.cells (if listed.getD 22 false=true then C else jD) 66 (0,0))) 73 JY hsz ?_ ?_ ⟨(Kept.refl _ w3).drew,by rw[no];exact hz⟩
 ·intro listed a w j o h H l I
  have Z:=bz l;obtain⟨hk,O⟩:=h.wd
  have cd:∀w',j≠22→Kept ag w w'→Kept (aA g) w3 w'∧w'.heap[g]? =some (.cells (if(listed.setIfInBounds j true).getD 22 false=true then C else jD) 66 (0,0)):=fun w' X L=>by
   rw[ai Z,if_neg (Ne.symm X)];exact⟨hk.trans (L.kC _),L.some_ O id⟩
  have p:j<24:=by
   have:=(Array.getElem?_eq_some_iff.1 H).1
   rwa [Da]at this
  have N:bB w lo B r own:=hP.kept hk hBg hrg;obtain⟨y,z,l3,l4,l5⟩:=OC w hk;have same:∀{j':Nat} {E:Oper},bp[j']? =some E→j=j'→E=o:=fun {j' E} h' e=>by subst e;exact Option.some.inj (h'.symm.trans H)
  rcases(show j=0∨j=1∨j=2∨j=3∨j=4∨j=5∨j=6∨j=7∨j=8∨j=9∨j=10∨j=11∨j=12∨j=13∨j=14∨j=15∨j=16∨j=17∨j=18∨j=19∨j=20∨j=21∨j=22∨j=23 by omega)with rfl|rfl|rfl|rfl|rfl|rfl|rfl|rfl|rfl|rfl|rfl|rfl|rfl|rfl|rfl|rfl|rfl|rfl|rfl|rfl|rfl|rfl|rfl|rfl
  ·obtain⟨E,A,D,G⟩:=aE7
   obtain rfl:=same A rfl;exact wp_move _ _ (Or.inl D) ((h.old (t:=4) (by kernel_rfl)).trans h4) ⟨rfl,cd w (by decide) (Kept.refl _ _)⟩
  ·obtain⟨E,A,D,G⟩:=aE8
   obtain rfl:=same A rfl;exact wp_move _ _ (Or.inl D) ((h.old (t:=7) (by kernel_rfl)).trans h7) ⟨rfl,cd w (by decide) (Kept.refl _ _)⟩
  ·obtain⟨E,A,D,G⟩:=aE9
   obtain rfl:=same A rfl;have e:=(h.get H I (i:=1) (d:=52) (by kernel_rfl) rfl)
   refine iN (.bool j7) ?_ ⟨rfl,cd w (by decide) (Kept.refl _ _)⟩;have e:a.eval (.tmp 52)=.string mg:=e;have U:a.eval (.const (.string ⟨#[117,115,116,97,114,32,32,0]⟩))=.string ⟨#[117,115,116,97,114,32,32,0]⟩:=rfl;generalize a.eval=ev at e U⊢;simp[go_sem,execOp,D,e,U,zk]
  ·obtain⟨E,A,D,G⟩:=aF0
   obtain rfl:=same A rfl;have J:a.eval (.tmp 51)=.map (some B):=(h.get H I (i:=0) (d:=51) (by kernel_rfl) rfl)
   have M:a.eval (.tmp 53)=.bool j7:=(h.get H I (i:=2) (d:=53) (by kernel_rfl) rfl)
   refine tV _ _ _ D #[.map (some B),.bool j7] (by simp[J,M]) (enters_of Tryz.func105 (by kernel_rfl) rfl) (.string nm) (fun w'=>Kept ag w w') ?_ (fun w' L=>⟨rfl,cd w' (by decide) L⟩);rw[Y];exact Vs lo B r own j7 w N
  ·obtain⟨E,A,D,G⟩:=aF1
   obtain rfl:=same A rfl;exact wp_move _ _ (Or.inl D) ((h.old (t:=4) (by kernel_rfl)).trans h4) ⟨rfl,cd w (by decide) (Kept.refl _ _)⟩
  ·obtain⟨E,A,D,G⟩:=aF2
   obtain rfl:=same A rfl;have J:a.eval (.tmp 55)=.map (some B):=(h.get H I (i:=4) (d:=55) (by kernel_rfl) rfl)
   refine tV _ _ _ D #[.map (some B),.int .i64 8] (by simp[J,uC]) (enters_of Tryz.func106 (by kernel_rfl) rfl) (.string ln) (fun w'=>Kept ag w w') ?_ (fun w' L=>⟨rfl,cd w' (by decide) L⟩);rw[m];exact oR lo B r own 8 w (by omega) N
  ·obtain⟨E,A,D,G⟩:=aF3
   obtain rfl:=same A rfl;exact wp_move _ _ (Or.inl D) ((h.old (t:=4) (by kernel_rfl)).trans h4) ⟨rfl,cd w (by decide) (Kept.refl _ _)⟩
  ·obtain⟨E,A,D,G⟩:=aF4
   obtain rfl:=same A rfl;have J:a.eval (.tmp 57)=.map (some B):=(h.get H I (i:=6) (d:=57) (by kernel_rfl) rfl)
   refine tV _ _ _ D #[.map (some B)] (by simp[J]) (enters_of Tryz.func107 (by kernel_rfl) rfl) (.int .u8 kd) (fun w'=>Kept ag w w') ?_ (fun w' L=>⟨rfl,cd w' (by decide) L⟩);rw[f];refine(UZ lo B r own w N).mono ?_;rintro e w' ⟨rfl,rfl⟩;exact⟨rfl,Kept.refl _ _⟩
  ·obtain⟨E,A,D,G⟩:=pop8
   obtain rfl:=same A rfl;exact wp_move _ _ (Or.inl D) ((h.old (t:=8) (by kernel_rfl)).trans h8) ⟨rfl,cd w (by decide) (Kept.refl _ _)⟩
  ·obtain⟨E,A,D,G⟩:=aF5
   obtain rfl:=same A rfl;exact vR _ _ _ D _ _ _ (h.get H I (i:=8) (d:=59) (by kernel_rfl) rfl) rfl y ⟨rfl,cd w (by decide) (Kept.refl _ _)⟩
  ·obtain⟨E,A,D,G⟩:=at0
   obtain rfl:=same A rfl;exact wp_move _ _ (Or.inl D) ((h.old (t:=8) (by kernel_rfl)).trans h8) ⟨rfl,cd w (by decide) (Kept.refl _ _)⟩
  ·obtain⟨E,A,D,G⟩:=at1
   obtain rfl:=same A rfl;exact vR _ _ _ D _ _ _ (h.get H I (i:=10) (d:=61) (by kernel_rfl) rfl) rfl z ⟨rfl,cd w (by decide) (Kept.refl _ _)⟩
  ·obtain⟨E,A,D,G⟩:=at2
   obtain rfl:=same A rfl;exact wp_move _ _ (Or.inl D) ((h.old (t:=8) (by kernel_rfl)).trans h8) ⟨rfl,cd w (by decide) (Kept.refl _ _)⟩
  ·obtain⟨E,A,D,G⟩:=at3
   obtain rfl:=same A rfl;exact vR _ _ _ D _ _ _ (h.get H I (i:=12) (d:=63) (by kernel_rfl) rfl) rfl l3 ⟨rfl,cd w (by decide) (Kept.refl _ _)⟩
  ·obtain⟨E,A,D,G⟩:=at4
   obtain rfl:=same A rfl;exact wp_move _ _ (Or.inl D) ((h.old (t:=8) (by kernel_rfl)).trans h8) ⟨rfl,cd w (by decide) (Kept.refl _ _)⟩
  ·obtain⟨E,A,D,G⟩:=at5
   obtain rfl:=same A rfl;exact vR _ _ _ D _ _ _ (h.get H I (i:=14) (d:=65) (by kernel_rfl) rfl) rfl l5 ⟨rfl,cd w (by decide) (Kept.refl _ _)⟩
  ·obtain⟨E,A,D,G⟩:=at6
   obtain rfl:=same A rfl;have J:=(h.get H I (i:=9) (d:=60) (by kernel_rfl) rfl)
   have M:=(h.get H I (i:=11) (d:=62) (by kernel_rfl) rfl)
   have R:=(h.get H I (i:=13) (d:=64) (by kernel_rfl) rfl)
   have T:=(h.get H I (i:=15) (d:=66) (by kernel_rfl) rfl)
   refine iN _ ?_ ⟨rfl,cd w (by decide) (Kept.refl _ _)⟩;have b:=Lw w v1 v2 v3 v5;have J:a.eval (.tmp 60)=.int .i64 v1:=J;have M:a.eval (.tmp 62)=.int .i64 v2:=M;have R:a.eval (.tmp 64)=.int .i64 v3:=R;have T:a.eval (.tmp 66)=.int .i64 v5:=T;simp[execOp,D,J,M,R,T,b,Result.andThen,pV]
  ·obtain⟨E,A,D,G⟩:=at7
   obtain rfl:=same A rfl;exact wp_move _ _ (Or.inl D) ((h.old (t:=8) (by kernel_rfl)).trans h8) ⟨rfl,cd w (by decide) (Kept.refl _ _)⟩
  ·obtain⟨E,A,D,G⟩:=au0
   obtain rfl:=same A rfl;exact vR _ _ _ D _ _ _ (h.get H I (i:=17) (d:=68) (by kernel_rfl) rfl) rfl l4 ⟨rfl,cd w (by decide) (Kept.refl _ _)⟩
  ·obtain⟨E,A,D,G⟩:=au1
   obtain rfl:=same A rfl;exact wp_move _ _ (Or.inl D) ((h.old (t:=7) (by kernel_rfl)).trans h7) ⟨rfl,cd w (by decide) (Kept.refl _ _)⟩
  ·obtain⟨E,A,D,G⟩:=au2
   obtain rfl:=same A rfl;have e:=(h.get H I (i:=19) (d:=70) (by kernel_rfl) rfl)
   refine iN (.bool j7) ?_ ⟨rfl,cd w (by decide) (Kept.refl _ _)⟩;have e:a.eval (.tmp 70)=.string mg:=e;have U:a.eval (.const (.string ⟨#[117,115,116,97,114,32,32,0]⟩))=.string ⟨#[117,115,116,97,114,32,32,0]⟩:=rfl;generalize a.eval=ev at e U⊢;simp[go_sem,execOp,D,e,U,zk]
  ·obtain⟨E,A,D,G⟩:=au3
   obtain rfl:=same A rfl;have J:a.eval (.tmp 54)=.string nm:=(h.get H I (i:=3) (d:=54) (by kernel_rfl) rfl)
   have M:a.eval (.tmp 56)=.string ln:=(h.get H I (i:=5) (d:=56) (by kernel_rfl) rfl)
   have R:a.eval (.tmp 58)=.int .u8 kd:=(h.get H I (i:=7) (d:=58) (by kernel_rfl) rfl)
   have T:a.eval (.tmp 67)=.agg #[.int .i64 v1,.int .i64 v2,.int .i64 v3,.int .i64 v5]:=(h.get H I (i:=16) (d:=67) (by kernel_rfl) rfl)
   have q:a.eval (.tmp 69)=.int .i64 v4:=(h.get H I (i:=18) (d:=69) (by kernel_rfl) rfl)
   have u:a.eval (.tmp 71)=.bool j7:=(h.get H I (i:=20) (d:=71) (by kernel_rfl) rfl)
   refine iN _ ?_ ⟨rfl,cd w (by decide) (Kept.refl _ _)⟩;have b:=Lv w nm ln kd v1 v2 v3 v5 v4 j7;simp[execOp,D,J,M,R,T,q,u,b,Result.andThen,pV]
  ·obtain⟨E,A,D,G⟩:=au4
   obtain rfl:=same A rfl;have J:=(h.old (t:=2) (by kernel_rfl)).trans h2;have M:=(h.get H I (i:=21) (d:=72) (by kernel_rfl) rfl)
   have W:w.heap[g]? =some (.cells jD 66 (0,0)):=by rw[jk l]at O;exact O
   refine F8 _ _ D g J nm ln kd v1 v2 v3 v5 v4 j7 M W (fun w' um L=>⟨rfl,hk.trans L,?_⟩);rw[ai Z,if_pos rfl,if_pos rfl,c];exact um
  ·obtain⟨E,A,D,G⟩:=aa1
   obtain rfl:=same A rfl;exact wp_move _ _ (Or.inr D) rfl ⟨rfl,cd w (by decide) (Kept.refl _ _)⟩
 ·intro listed a w h V
  have all:∀j,j<24→listed.getD j false=true:=fun j X=>V j (by rw[Da];exact X)
  obtain⟨hk,O⟩:=h.wd;rw[all 22 (by omega),if_pos rfl]at O;obtain⟨E,A,_,G⟩:=aa1;exact hQ a w h.df ((h.old (t:=2) (by kernel_rfl)).trans h2) (h.done 23 E 3 A G (all 23 (by omega))) O hk
theorem sP (b o c l h:Nat) (hl:l≤h) (h5:h≤512) (hc:512≤c) (hl5:l<512) (w:World):
 (Instr.sliceAt 26 (.slice (some ⟨b,o,none⟩) 512 c) (some (.int .i64 (l:Int))) (some (.int .i64 (h:Int))) none).run Tryz.prog w=.ok (.slice (some ⟨b,o+l,none⟩) (h - l) (c - l)) w:=by
 have D:=Tryz.underlying26;have h1:(l:Int)≤h:=by omega
 have A:(h:Int)≤c:=by omega
 have B:¬c=l:=by omega
 simp[go_sem,Instr.sliceAt,Instr.slice,Instr.sliceBounds,Result.andThen,h1,A,B,Addr.add]
theorem V9 (b o c h:Nat) (h5:h≤512) (hc:512≤c) (w:World):
 (Instr.sliceAt 26 (.slice (some ⟨b,o,none⟩) 512 c) none (some (.int .i64 (h:Int))) none).run Tryz.prog w=.ok (.slice (some ⟨b,o,none⟩) h c) w:=by
 have B:=Tryz.underlying26;have A:(h:Int)≤c:=by omega
 simp[go_sem,Instr.sliceAt,Instr.slice,Instr.sliceBounds,Result.andThen,A,Addr.add]
noncomputable def cw:Array Oper:=uZ Tryz.f32 9
def rV (S S1 S2:Value) (pt:Addr) (mg x0 x1:ByteArray) (j7:Bool) (kd:Int) (g:Nat):Nat→Value
 |0=>.string mg|1=>.bool j7|2=>S|3=>.pointer (some pt)|4=>.int .u8 kd|5=>S|6=>S1|7=>.string x0|8=>S|9=>S2|10=>.string x1
 |11=>.agg #[.string x0,.string x1,.int .u8 kd,.int .i64 0,.int .i64 0,.int .i64 0,.int .i64 0,.int .i64 0,.bool j7]|12=>.pointer (some ⟨g,0,none⟩)|_=>undef
theorem Dm:cw.size=14:=rfl
theorem FI:wP cw 118=true:=by kernel_rfl
theorem av7:aP cw 0=some 43:=rfl
theorem aG7:∃o,cw[0]? =some o∧o.op=.move (.tmp 6)∧o.dst=some 43:=⟨_,rfl,rfl,rfl⟩
theorem av8:aP cw 1=some 44:=rfl
theorem aG8:∃o,cw[1]? =some o∧o.op=.binOp .eql 9 (.tmp 43) (.const (.string ⟨#[117,115,116,97,114,32,32,0]⟩)) 9∧o.dst=some 44:=⟨_,rfl,rfl,rfl⟩
theorem av9:aP cw 2=some 45:=rfl
theorem aG9:∃o,cw[2]? =some o∧o.op=.move (.tmp 0)∧o.dst=some 45:=⟨_,rfl,rfl,rfl⟩
theorem aw0:aP cw 3=some 46:=rfl
theorem aH0:∃o,cw[3]? =some o∧o.op=.indexAddr 26 (.tmp 45) (.const (.int .i64 156))∧o.dst=some 46:=⟨_,rfl,rfl,rfl⟩
theorem aw1:aP cw 4=some 47:=rfl
theorem aH1:∃o,cw[4]? =some o∧o.op=.load 5 (.tmp 46)∧o.dst=some 47:=⟨_,rfl,rfl,rfl⟩
theorem aw2:aP cw 5=some 48:=rfl
theorem aH2:∃o,cw[5]? =some o∧o.op=.move (.tmp 0)∧o.dst=some 48:=⟨_,rfl,rfl,rfl⟩
theorem aw3:aP cw 6=some 49:=rfl
theorem aH3:∃o,cw[6]? =some o∧o.op=.slice 26 (.tmp 48) none (some (.const (.int .i64 100))) none∧o.dst=some 49:=⟨_,rfl,rfl,rfl⟩
theorem aw4:aP cw 7=some 50:=rfl
theorem aH4:∃o,cw[7]? =some o∧o.op=.call {callee:=.value (.func 65),args:=#[.tmp 49],argTypes:=#[26]}∧o.dst=some 50:=⟨_,rfl,rfl,rfl⟩
theorem aw5:aP cw 8=some 51:=rfl
theorem aH5:∃o,cw[8]? =some o∧o.op=.move (.tmp 0)∧o.dst=some 51:=⟨_,rfl,rfl,rfl⟩
theorem aw6:aP cw 9=some 52:=rfl
theorem aH6:∃o,cw[9]? =some o∧o.op=.slice 26 (.tmp 51) (some (.const (.int .i64 157))) (some (.const (.int .i64 257))) none∧o.dst=some 52:=⟨_,rfl,rfl,rfl⟩
theorem ai4:aP cw 10=some 53:=rfl
theorem aw8:∃o,cw[10]? =some o∧o.op=.call {callee:=.value (.func 65),args:=#[.tmp 52],argTypes:=#[26]}∧o.dst=some 53:=⟨_,rfl,rfl,rfl⟩
theorem ai5:aP cw 11=some 54:=rfl
theorem aw9:∃o,cw[11]? =some o∧o.op=.build 66 #[(5,.tmp 44),(2,.tmp 47),(0,.tmp 50),(1,.tmp 53)]∧o.dst=some 54:=⟨_,rfl,rfl,rfl⟩
theorem ai6:aP cw 12=some 7:=rfl
theorem ax0:∃o,cw[12]? =some o∧o.op=.alloc 66∧o.dst=some 7:=⟨_,rfl,rfl,rfl⟩
theorem ai7:aP cw 13=none:=rfl
theorem ax1:∃o,cw[13]? =some o∧o.op=.store 66 (.tmp 7) (.tmp 54)∧o.dst=none:=⟨_,rfl,rfl,rfl⟩
theorem Hk (w:World) (n l:ByteArray) (k:Int) (g:Bool):(Instr.build 66 #[(5,.bool g),(2,.int .u8 k),(0,.string n),(1,.string l)]).run Tryz.prog w=.ok (.agg #[.string n,.string l,.int .u8 k,.int .i64 0,.int .i64 0,.int .i64 0,.int .i64 0,.int .i64 0,.bool g]) w:=by kernel_rfl
theorem Ln (w:World):(Instr.alloc 66 true (.tuple #[])).run Tryz.prog w=.ok (.pointer (some ⟨w.heap.size,0,none⟩)) (w.alloc (.cells jD 66)):=by kernel_rfl
theorem Nj (g:Nat) (S S1 S2:Value) (pt:Addr) (mg x0 x1:ByteArray) (j7:Bool) (kd:Int)
 (hsz:118≤a0.tmps.size) (h0:a0.eval (.tmp 0)=S) (h6:a0.eval (.tmp 6)=.string mg) (hg:g=w3.heap.size)
 (hix:∀w,(Instr.indexAt 26 S (.int .i64 156)).run Tryz.prog w=.ok (.pointer (some pt)) w)
 (hld:∀w,Kept ag w3 w→(Instr.loadAt 5 (.pointer (some pt))).run Tryz.prog w=.ok (.int .u8 kd) w)
 (we:∀w,(Instr.sliceAt 26 S none (some (.int .i64 100)) none).run Tryz.prog w=.ok S1 w)
 (Bw:∀w,(Instr.sliceAt 26 S (some (.int .i64 157)) (some (.int .i64 257)) none).run Tryz.prog w=.ok S2 w)
 (hu1:∀w,Kept ag w3 w→Calls Tryz.prog 65 #[S1] w fun e w'=>e=.returned (.string x0)∧w=w')
 (hu2:∀w,Kept ag w3 w→Calls Tryz.prog 65 #[S2] w fun e w'=>e=.returned (.string x1)∧w=w')
 (zk:(mg.toList==[117,115,116,97,114,32,32,0])=j7)
 (hQ:∀w',w'.heap[g]? =some (.cells #[.string x0,.string x1,.int .u8 kd,.int .i64 0,.int .i64 0,.int .i64 0,.int .i64 0,.int .i64 0,.bool j7] 66 (0,0))→Kept ag w3 w'→Q' .normal (((((((((((((a0.put (some 43) (.string mg)).put (some 44) (.bool j7)).put (some 45) (S)).put (some 46) (.pointer (some pt))).put (some 47) (.int .u8 kd)).put (some 48) (S)).put (some 49) (S1)).put (some 50) (.string x0)).put (some 51) (S)).put (some 52) (S2)).put (some 53) (.string x1)).put (some 54) (.agg #[.string x0,.string x1,.int .u8 kd,.int .i64 0,.int .i64 0,.int .i64 0,.int .i64 0,.int .i64 0,.bool j7])).put (some 7) (.pointer (some ⟨g,0,none⟩))) w'):
 wpAny Tryz.prog .any cw Q' cw.size (Array.replicate cw.size false) a0 w3.drew:=by
 have no:∀j,(Array.replicate cw.size false).getD j false=false:=fun j=>by
  rw[Array.getD_eq_getD_getElem?,Array.getElem?_replicate];split<;>rfl
 obtain⟨C,c⟩:∃C:Array Value,C=#[.string x0,.string x1,.int .u8 kd,.int .i64 0,.int .i64 0,.int .i64 0,.int .i64 0,.int .i64 0,.bool j7]:=⟨_,rfl⟩
 refine xw (rV S S1 S2 pt mg x0 x1 j7 kd g) a0 (fun listed w=>Kept ag w3 w∧(listed.getD 12 false=false→w.heap.size=g)∧(listed.getD 12 false=true→w.heap[g]? =some (.cells (if listed.getD 13 false=true then C else jD) 66 (0,0)))∧(listed.getD 13 false=true→listed.getD 12 false=true)) 118 FI hsz ?_ ?_
  ⟨(Kept.refl _ w3).drew,fun _=>hg.symm,fun h=>(by rw[no]at h;cases h),fun h=>(by rw[no]at h;cases h)⟩
 ·intro listed a w j o h E T G
  have I:=bz T;obtain⟨hk,U,Y,R⟩:=h.wd
  have cd:j≠12→j≠13→Kept ag w3 w∧((listed.setIfInBounds j true).getD 12 false=false→w.heap.size=g)∧((listed.setIfInBounds j true).getD 12 false=true→w.heap[g]? =some (.cells (if(listed.setIfInBounds j true).getD 13 false=true then C else jD) 66 (0,0)))∧((listed.setIfInBounds j true).getD 13 false=true→(listed.setIfInBounds j true).getD 12 false=true):=fun X l=>by
   rw[ai I,if_neg (Ne.symm X),ai I,if_neg (Ne.symm l)];exact⟨hk,U,Y,R⟩
  have m:j<14:=by
   have:=(Array.getElem?_eq_some_iff.1 E).1
   rwa [Dm]at this
  have same:∀{j':Nat} {D:Oper},cw[j']? =some D→j=j'→D=o:=fun {j' D} h' e=>by subst e;exact Option.some.inj (h'.symm.trans E)
  rcases(show j=0∨j=1∨j=2∨j=3∨j=4∨j=5∨j=6∨j=7∨j=8∨j=9∨j=10∨j=11∨j=12∨j=13 by omega)with rfl|rfl|rfl|rfl|rfl|rfl|rfl|rfl|rfl|rfl|rfl|rfl|rfl|rfl
  ·obtain⟨D,A,B,H⟩:=aG7
   obtain rfl:=same A rfl;exact wp_move _ _ (Or.inl B) ((h.old (t:=6) (by kernel_rfl)).trans h6) ⟨rfl,(cd (by decide) (by decide))⟩
  ·obtain⟨D,A,B,H⟩:=aG8
   obtain rfl:=same A rfl;have e:a.eval (.tmp 43)=.string mg:=(h.get E G (i:=0) (d:=43) (by kernel_rfl) rfl)
   refine iN (.bool j7) ?_ ⟨rfl,(cd (by decide) (by decide))⟩;have Z:a.eval (.const (.string ⟨#[117,115,116,97,114,32,32,0]⟩))=.string ⟨#[117,115,116,97,114,32,32,0]⟩:=rfl;generalize a.eval=ev at e Z⊢;simp[go_sem,execOp,B,e,Z,zk]
  ·obtain⟨D,A,B,H⟩:=aG9
   obtain rfl:=same A rfl;exact wp_move _ _ (Or.inl B) ((h.old (t:=0) (by kernel_rfl)).trans h0) ⟨rfl,(cd (by decide) (by decide))⟩
  ·obtain⟨D,A,B,H⟩:=aH0
   obtain rfl:=same A rfl;have e:a.eval (.tmp 45)=S:=(h.get E G (i:=2) (d:=45) (by kernel_rfl) rfl)
   refine iN _ ?_ ⟨rfl,(cd (by decide) (by decide))⟩;have q:=hix w;simp[execOp,B,e,uC,q,Result.andThen,rV]
  ·obtain⟨D,A,B,H⟩:=aH1
   obtain rfl:=same A rfl;have e:a.eval (.tmp 46)=.pointer (some pt):=(h.get E G (i:=3) (d:=46) (by kernel_rfl) rfl)
   refine iN _ ?_ ⟨rfl,(cd (by decide) (by decide))⟩;have q:=hld w hk;simp[execOp,B,e,q,Result.andThen,rV]
  ·obtain⟨D,A,B,H⟩:=aH2
   obtain rfl:=same A rfl;exact wp_move _ _ (Or.inl B) ((h.old (t:=0) (by kernel_rfl)).trans h0) ⟨rfl,(cd (by decide) (by decide))⟩
  ·obtain⟨D,A,B,H⟩:=aH3
   obtain rfl:=same A rfl;have e:a.eval (.tmp 48)=S:=(h.get E G (i:=5) (d:=48) (by kernel_rfl) rfl)
   refine iN _ ?_ ⟨rfl,(cd (by decide) (by decide))⟩;have q:=we w;simp[execOp,B,e,uC,q,Result.andThen,rV]
  ·obtain⟨D,A,B,H⟩:=aH4
   obtain rfl:=same A rfl;have L:a.eval (.tmp 49)=S1:=(h.get E G (i:=6) (d:=49) (by kernel_rfl) rfl)
   exact tV _ _ _ B #[S1] (by simp[L]) (enters_of Tryz.func65 (by kernel_rfl) rfl) (.string x0) (fun w'=>w=w') (hu1 w hk) (fun w' hw=>by subst hw;exact⟨rfl,(cd (by decide) (by decide))⟩)
  ·obtain⟨D,A,B,H⟩:=aH5
   obtain rfl:=same A rfl;exact wp_move _ _ (Or.inl B) ((h.old (t:=0) (by kernel_rfl)).trans h0) ⟨rfl,(cd (by decide) (by decide))⟩
  ·obtain⟨D,A,B,H⟩:=aH6
   obtain rfl:=same A rfl;have e:a.eval (.tmp 51)=S:=(h.get E G (i:=8) (d:=51) (by kernel_rfl) rfl)
   refine iN _ ?_ ⟨rfl,(cd (by decide) (by decide))⟩;have q:=Bw w;simp[execOp,B,e,uC,q,Result.andThen,rV]
  ·obtain⟨D,A,B,H⟩:=aw8
   obtain rfl:=same A rfl;have L:a.eval (.tmp 52)=S2:=(h.get E G (i:=9) (d:=52) (by kernel_rfl) rfl)
   exact tV _ _ _ B #[S2] (by simp[L]) (enters_of Tryz.func65 (by kernel_rfl) rfl) (.string x1) (fun w'=>w=w') (hu2 w hk) (fun w' hw=>by subst hw;exact⟨rfl,(cd (by decide) (by decide))⟩)
  ·obtain⟨D,A,B,H⟩:=aw9
   obtain rfl:=same A rfl;have L:a.eval (.tmp 44)=.bool j7:=(h.get E G (i:=1) (d:=44) (by kernel_rfl) rfl)
   have W:a.eval (.tmp 47)=.int .u8 kd:=(h.get E G (i:=4) (d:=47) (by kernel_rfl) rfl)
   have p:a.eval (.tmp 50)=.string x0:=(h.get E G (i:=7) (d:=50) (by kernel_rfl) rfl)
   have r:a.eval (.tmp 53)=.string x1:=(h.get E G (i:=10) (d:=53) (by kernel_rfl) rfl)
   refine iN _ ?_ ⟨rfl,(cd (by decide) (by decide))⟩;have b:=Hk w x0 x1 kd j7;simp[execOp,B,L,W,p,r,b,Result.andThen,rV]
  ·obtain⟨D,A,B,H⟩:=ax0
   obtain rfl:=same A rfl;have q:=Ln w;rw[U (jk T)]at q
   have V:listed.getD 13 false=false:=by
    cases M:listed.getD 13 false with
    |false=>rfl
    |true=>
     have h1:=R M;rw[jk T]at h1
     cases h1
   have u:(execOp a.eval D).run Tryz.prog w=.ok (.value (.pointer (some ⟨g,0,none⟩))) (w.alloc (.cells jD 66)):=by simp[execOp,B,q,Result.andThen]
   unfold Oper.wp;rw[u,Oper.upon_value];refine⟨rfl,hk.alloc _,fun M=>?_,fun _=>?_,fun _=>by rw[ai I,if_pos rfl]⟩
   ·rw[ai I,if_pos rfl]at M
    cases M
   ·rw[ai I,if_neg (show ¬(13=12) by decide),V,if_neg (by decide),←U (jk T)]
    exact heap_alloc_new w _
  ·obtain⟨D,A,B,H⟩:=ax1
   obtain rfl:=same A rfl;have L:a.eval (.tmp 7)=.pointer (some ⟨g,0,none⟩):=(h.get E G (i:=12) (d:=7) (by kernel_rfl) rfl)
   have W:a.eval (.tmp 54)=rV S S1 S2 pt mg x0 x1 j7 kd g 11:=(h.get E G (i:=11) (d:=54) (by kernel_rfl) rfl)
   have N:listed.getD 12 false=true:=o9 E G (by kernel_rfl);have f:=Y N;rw[if_neg (by rw[jk T];decide)]at f;refine F8 _ _ B g L x0 x1 kd 0 0 0 0 0 j7 W f (fun w' z y=>⟨rfl,?_,fun M=>?_,fun _=>?_,fun _=>by rw[ai I,if_neg (by decide)];exact N⟩)
   ·exact hk.then y (fun i hi=>Or.inl (by
     have h1:i=g:=hi;rw[h1,hg]
     exact Qk _))
   ·rw[ai I,if_neg (by decide),N]at M
    cases M
   ·rw[ai I,if_pos rfl,if_pos rfl,c]
    exact z
 ·intro listed a w h J
  have all:∀j,j<14→listed.getD j false=true:=fun j X=>J j (by rw[Dm];exact X)
  obtain⟨hk,_,O,_⟩:=h.wd;have O:=O (all 12 (by omega));rw[all 13 (by omega),if_pos rfl]at O;rw[c]at O;rw[Ag 118 FI hsz h J,Dm];simp only[nS,Di,av7,av8,av9,aw0,aw1,aw2,aw3,aw4,aw5,aw6,ai4,ai5,ai6,ai7];exact hQ w O hk
noncomputable def bV:Array Oper:=uZ Tryz.f32 16
def rV2 (S S1 S2 S3 S4 S5:Value) (g:Nat):Nat→Value
 |0=>S|1=>S1|2=>S|3=>S2|4=>S|5=>S3|6=>S|7=>S4|8=>S|9=>S5|10=>.slice (some ⟨g,0,none⟩) 5 5|11=>.slice (some ⟨g,0,none⟩) 5 5|_=>undef
theorem zA:bV.size=12:=rfl
theorem Dl:wP bV 118=true:=by kernel_rfl
theorem au5:aP bV 0=some 75:=rfl
theorem aF6:∃o,bV[0]? =some o∧o.op=.move (.tmp 0)∧o.dst=some 75:=⟨_,rfl,rfl,rfl⟩
theorem au6:aP bV 1=some 76:=rfl
theorem aF7:∃o,bV[1]? =some o∧o.op=.slice 26 (.tmp 75) (some (.const (.int .i64 100))) (some (.const (.int .i64 108))) none∧o.dst=some 76:=⟨_,rfl,rfl,rfl⟩
theorem au7:aP bV 2=some 77:=rfl
theorem aF8:∃o,bV[2]? =some o∧o.op=.move (.tmp 0)∧o.dst=some 77:=⟨_,rfl,rfl,rfl⟩
theorem au8:aP bV 3=some 78:=rfl
theorem aF9:∃o,bV[3]? =some o∧o.op=.slice 26 (.tmp 77) (some (.const (.int .i64 108))) (some (.const (.int .i64 116))) none∧o.dst=some 78:=⟨_,rfl,rfl,rfl⟩
theorem au9:aP bV 4=some 79:=rfl
theorem aG0:∃o,bV[4]? =some o∧o.op=.move (.tmp 0)∧o.dst=some 79:=⟨_,rfl,rfl,rfl⟩
theorem av0:aP bV 5=some 80:=rfl
theorem aG1:∃o,bV[5]? =some o∧o.op=.slice 26 (.tmp 79) (some (.const (.int .i64 116))) (some (.const (.int .i64 124))) none∧o.dst=some 80:=⟨_,rfl,rfl,rfl⟩
theorem av1:aP bV 6=some 81:=rfl
theorem aG2:∃o,bV[6]? =some o∧o.op=.move (.tmp 0)∧o.dst=some 81:=⟨_,rfl,rfl,rfl⟩
theorem av2:aP bV 7=some 82:=rfl
theorem aG3:∃o,bV[7]? =some o∧o.op=.slice 26 (.tmp 81) (some (.const (.int .i64 136))) (some (.const (.int .i64 148))) none∧o.dst=some 82:=⟨_,rfl,rfl,rfl⟩
theorem av3:aP bV 8=some 83:=rfl
theorem aG4:∃o,bV[8]? =some o∧o.op=.move (.tmp 0)∧o.dst=some 83:=⟨_,rfl,rfl,rfl⟩
theorem av4:aP bV 9=some 84:=rfl
theorem aG5:∃o,bV[9]? =some o∧o.op=.slice 26 (.tmp 83) (some (.const (.int .i64 124))) (some (.const (.int .i64 136))) none∧o.dst=some 84:=⟨_,rfl,rfl,rfl⟩
theorem ai1:aP bV 10=some 85:=rfl
theorem av5:∃o,bV[10]? =some o∧o.op=.buildSlice 118 5 #[(0,.tmp 76),(1,.tmp 78),(2,.tmp 80),(3,.tmp 82),(4,.tmp 84)]∧o.dst=some 85:=⟨_,rfl,rfl,rfl⟩
theorem ai2:aP bV 11=some 10:=rfl
theorem av6:∃o,bV[11]? =some o∧o.op=.assign (.tmp 85)∧o.dst=some 10:=⟨_,rfl,rfl,rfl⟩
theorem ac7 (w:World) (p1 p2 p3 p4 p5:Option Addr) (n1 c1 n2 c2 n3 c3 n4 c4 n5 c5:Nat):(Instr.buildSlice 118 5 #[(0,.slice p1 n1 c1),(1,.slice p2 n2 c2),(2,.slice p3 n3 c3),(3,.slice p4 n4 c4),(4,.slice p5 n5 c5)]).run Tryz.prog w=.ok (.slice (some ⟨w.heap.size,0,none⟩) 5 5) (w.alloc (.cells #[.slice p1 n1 c1,.slice p2 n2 c2,.slice p3 n3 c3,.slice p4 n4 c4,.slice p5 n5 c5] 26)):=by kernel_rfl
theorem Ki (g:Nat) (S S1 S2 S3 S4 S5:Value)
 (hsz:118≤a0.tmps.size) (h0:a0.eval (.tmp 0)=S) (hg:g=w3.heap.size)
 (we:∀w,(Instr.sliceAt 26 S (some (.int .i64 100)) (some (.int .i64 108)) none).run Tryz.prog w=.ok S1 w)
 (Bw:∀w,(Instr.sliceAt 26 S (some (.int .i64 108)) (some (.int .i64 116)) none).run Tryz.prog w=.ok S2 w)
 (Cw:∀w,(Instr.sliceAt 26 S (some (.int .i64 116)) (some (.int .i64 124)) none).run Tryz.prog w=.ok S3 w)
 (WU:∀w,(Instr.sliceAt 26 S (some (.int .i64 136)) (some (.int .i64 148)) none).run Tryz.prog w=.ok S4 w)
 (yM:∀w,(Instr.sliceAt 26 S (some (.int .i64 124)) (some (.int .i64 136)) none).run Tryz.prog w=.ok S5 w)
 (hb:∀w,(Instr.buildSlice 118 5 #[(0,S1),(1,S2),(2,S3),(3,S4),(4,S5)]).run Tryz.prog w=.ok (.slice (some ⟨w.heap.size,0,none⟩) 5 5) (w.alloc (.cells #[S1,S2,S3,S4,S5] 26)))
 (hQ:∀w',w'.heap[g]? =some (.cells #[S1,S2,S3,S4,S5] 26 (0,0))→Kept ag w3 w'→Q' .normal ((((((((((((a0.put (some 75) (S)).put (some 76) (S1)).put (some 77) (S)).put (some 78) (S2)).put (some 79) (S)).put (some 80) (S3)).put (some 81) (S)).put (some 82) (S4)).put (some 83) (S)).put (some 84) (S5)).put (some 85) (.slice (some ⟨g,0,none⟩) 5 5)).put (some 10) (.slice (some ⟨g,0,none⟩) 5 5)) w'):
 wpAny Tryz.prog .any bV Q' bV.size (Array.replicate bV.size false) a0 w3.drew:=by
 have no:∀j,(Array.replicate bV.size false).getD j false=false:=fun j=>by
  rw[Array.getD_eq_getD_getElem?,Array.getElem?_replicate];split<;>rfl
 obtain⟨C,b⟩:∃C:Array Value,C=#[S1,S2,S3,S4,S5]:=⟨_,rfl⟩
 rw[←b]at hQ hb
 refine xw (rV2 S S1 S2 S3 S4 S5 g) a0 (fun listed w=>Kept ag w3 w∧(listed.getD 10 false=false→w.heap.size=g)∧(listed.getD 10 false=true→w.heap[g]? =some (.cells C 26 (0,0)))) 118 Dl hsz ?_ ?_
  ⟨(Kept.refl _ w3).drew,fun _=>hg.symm,fun h=>(by rw[no]at h;cases h)⟩
 ·intro listed a w j o h E N H
  have O:=bz N;obtain⟨hk,J,T⟩:=h.wd
  have cd:j≠10→Kept ag w3 w∧((listed.setIfInBounds j true).getD 10 false=false→w.heap.size=g)∧((listed.setIfInBounds j true).getD 10 false=true→w.heap[g]? =some (.cells C 26 (0,0))):=fun M=>by
   rw[ai O,if_neg (Ne.symm M)];exact⟨hk,J,T⟩
  have U:j<12:=by
   have:=(Array.getElem?_eq_some_iff.1 E).1
   rwa [zA]at this
  have same:∀{j':Nat} {D:Oper},bV[j']? =some D→j=j'→D=o:=fun {j' D} h' e=>by subst e;exact Option.some.inj (h'.symm.trans E)
  rcases(show j=0∨j=1∨j=2∨j=3∨j=4∨j=5∨j=6∨j=7∨j=8∨j=9∨j=10∨j=11 by omega)with rfl|rfl|rfl|rfl|rfl|rfl|rfl|rfl|rfl|rfl|rfl|rfl
  ·obtain⟨D,A,B,G⟩:=aF6
   obtain rfl:=same A rfl;exact wp_move _ _ (Or.inl B) ((h.old (t:=0) (by kernel_rfl)).trans h0) ⟨rfl,(cd (by decide))⟩
  ·obtain⟨D,A,B,G⟩:=aF7
   obtain rfl:=same A rfl;have e:a.eval (.tmp 75)=S:=(h.get E H (i:=0) (d:=75) (by kernel_rfl) rfl)
   refine iN _ ?_ ⟨rfl,(cd (by decide))⟩;have q:=we w;simp[execOp,B,e,uC,q,Result.andThen,rV2]
  ·obtain⟨D,A,B,G⟩:=aF8
   obtain rfl:=same A rfl;exact wp_move _ _ (Or.inl B) ((h.old (t:=0) (by kernel_rfl)).trans h0) ⟨rfl,(cd (by decide))⟩
  ·obtain⟨D,A,B,G⟩:=aF9
   obtain rfl:=same A rfl;have e:a.eval (.tmp 77)=S:=(h.get E H (i:=2) (d:=77) (by kernel_rfl) rfl)
   refine iN _ ?_ ⟨rfl,(cd (by decide))⟩;have q:=Bw w;simp[execOp,B,e,uC,q,Result.andThen,rV2]
  ·obtain⟨D,A,B,G⟩:=aG0
   obtain rfl:=same A rfl;exact wp_move _ _ (Or.inl B) ((h.old (t:=0) (by kernel_rfl)).trans h0) ⟨rfl,(cd (by decide))⟩
  ·obtain⟨D,A,B,G⟩:=aG1
   obtain rfl:=same A rfl;have e:a.eval (.tmp 79)=S:=(h.get E H (i:=4) (d:=79) (by kernel_rfl) rfl)
   refine iN _ ?_ ⟨rfl,(cd (by decide))⟩;have q:=Cw w;simp[execOp,B,e,uC,q,Result.andThen,rV2]
  ·obtain⟨D,A,B,G⟩:=aG2
   obtain rfl:=same A rfl;exact wp_move _ _ (Or.inl B) ((h.old (t:=0) (by kernel_rfl)).trans h0) ⟨rfl,(cd (by decide))⟩
  ·obtain⟨D,A,B,G⟩:=aG3
   obtain rfl:=same A rfl;have e:a.eval (.tmp 81)=S:=(h.get E H (i:=6) (d:=81) (by kernel_rfl) rfl)
   refine iN _ ?_ ⟨rfl,(cd (by decide))⟩;have q:=WU w;simp[execOp,B,e,uC,q,Result.andThen,rV2]
  ·obtain⟨D,A,B,G⟩:=aG4
   obtain rfl:=same A rfl;exact wp_move _ _ (Or.inl B) ((h.old (t:=0) (by kernel_rfl)).trans h0) ⟨rfl,(cd (by decide))⟩
  ·obtain⟨D,A,B,G⟩:=aG5
   obtain rfl:=same A rfl;have e:a.eval (.tmp 83)=S:=(h.get E H (i:=8) (d:=83) (by kernel_rfl) rfl)
   refine iN _ ?_ ⟨rfl,(cd (by decide))⟩;have q:=yM w;simp[execOp,B,e,uC,q,Result.andThen,rV2]
  ·obtain⟨D,A,B,G⟩:=av5
   obtain rfl:=same A rfl;have V:a.eval (.tmp 76)=S1:=(h.get E H (i:=1) (d:=76) (by kernel_rfl) rfl)
   have W:a.eval (.tmp 78)=S2:=(h.get E H (i:=3) (d:=78) (by kernel_rfl) rfl)
   have X:a.eval (.tmp 80)=S3:=(h.get E H (i:=5) (d:=80) (by kernel_rfl) rfl)
   have Y:a.eval (.tmp 82)=S4:=(h.get E H (i:=7) (d:=82) (by kernel_rfl) rfl)
   have Z:a.eval (.tmp 84)=S5:=(h.get E H (i:=9) (d:=84) (by kernel_rfl) rfl)
   have q:=hb w;rw[J (jk N)]at q;have c:(execOp a.eval D).run Tryz.prog w=.ok (.value (.slice (some ⟨g,0,none⟩) 5 5)) (w.alloc (.cells C 26)):=by simp[execOp,B,V,W,X,Y,Z,q,Result.andThen]
   unfold Oper.wp;rw[c,Oper.upon_value];refine⟨rfl,hk.alloc _,fun R=>?_,fun _=>?_⟩
   ·rw[ai O,if_pos rfl]at R
    cases R
   ·rw[←J (jk N)]
    exact heap_alloc_new w _
  ·obtain⟨D,A,B,G⟩:=av6
   obtain rfl:=same A rfl;have e:a.eval (.tmp 85)=.slice (some ⟨g,0,none⟩) 5 5:=(h.get E H (i:=10) (d:=85) (by kernel_rfl) rfl)
   exact wp_move _ _ (Or.inr B) e ⟨rfl,(cd (by decide))⟩
 ·intro listed a w h I
  have all:∀j,j<12→listed.getD j false=true:=fun j M=>I j (by rw[zA];exact M)
  obtain⟨hk,_,L⟩:=h.wd;have L:=L (all 10 (by omega));rw[Ag 118 Dl hsz h I,zA];simp only[nS,au5,au6,au7,au8,au9,av0,av1,av2,av3,av4,ai1,ai2];exact hQ w L hk
end Head
namespace Head
open Hp Go.Proofs.YtdhibldkldlfpaaGreatDoor.Mp Fp Go.Proofs.YtdhibldkldlfpaaGreatDoor.Field
theorem pq (p:Option Addr) (n c:Nat) (bs:List UInt8) (w:World) (hn:bs.length=n) (hc:n≤c) (A9:c≤maxLen) (h:iC w p n bs):
 Calls Tryz.prog 74 #[.slice p n c] w fun e w'=>e=.returned (oF (aR bs))∧Kept ag w w':=by
 have hm:c≤9223372036854775807:=by unfold maxLen at A9;omega
 have fl:=pb;have M:=Qh hn;have H:=Qh h;clear h hn
 by_cases Jb:n=512
 ·subst Jb
  obtain⟨g,hg⟩:∃g,g=w.heap.size:=⟨_,rfl⟩
  obtain⟨R,GQ⟩:∃R,R=w.alloc (.cells #[.string ⟨#[]⟩,.string ⟨#[]⟩,.int .u8 0,.int .i64 0,.int .i64 0,.int .i64 0,.int .i64 0,.int .i64 0,.bool false] 66):=⟨_,rfl⟩
  have J:Hid (Kept ag w R):=Qh (by rw[GQ];exact(Kept.refl ag w).alloc _);have AV:Hid (R.heap[g]? =some (.cells jD 66 (0,0))):=Qh (by rw[GQ,hg];exact heap_alloc_new w _);have y:Hid (g<R.heap.size):=Qh (Array.getElem?_eq_some_iff.1 AV.out).1;have HGE:Hid (g=w.heap.size):=Qh hg;have V:Hid (w.heap.size≤g):=Qh (by omega)
  go_enter Tryz.func74,Tryz.ntmps74
  go_wp2_with fail
  rw[←GQ,←hg];clear GQ hg;refine(VR p c bs R M.out hc (by unfold maxLen;omega) (H.out.kept J.out (fun _ _ _=>id))).mono ?_;obtain⟨N,f⟩:∃N,N=R.heap.size:=⟨_,rfl⟩
  have Wx:Hid (N=R.heap.size):=Qh f;rw[←f];clear f;rintro e w1 ⟨B,r,rfl,Z,jM⟩;have Pq:=Qh Z;have nQ:=Qh jM;have lk6:(Instr.lookup 166 (.map (some B)) (.int .i64 6) false).run Tryz.prog w1=.ok (.agg #[.int .i64 148,.slice (some ⟨r 6,0,none⟩) 8 8]) w1:=Z8 Z 6 (by omega);clear Z jM;go_wp2_with fail;refine(Ft _ 8 8 (jG bs 6) w1 (Pq.out.fit 6) (Qk _) (by decide) (Pq.out.nB (i:=6) (by omega))).mono ?_;rintro e w2 ⟨rfl,cj⟩;have jm:Kept ag w1 w2:=Kept.bj cj _;have L:=Qh (Pq.out.jq jm);have O:=Qh (nQ.out.trans jm);have G:=Qh (O.out.some_ AV.out id);clear cj jm lk6;rw[uX bs 6 (by omega)]
  cases vJ:aY (aj bs 6)with
  |none=>
   have E:Hid (aR bs=(bg,3)):=Qh (vH M.out (by rw[vJ];simp));rw[Zb,Hc];have c0:=bC G.out;have f0:=ct G.out;unfold jD at c0;clear vJ;go_wp2;refine bodyPost_ret (jR rfl _ _ g _ rfl rfl ⟨#[]⟩ ⟨#[]⟩ 0 0 0 0 0 0 false (oQ G.out _ _ _ _ _ _ _ _ _)) rfl ?_;rw[E.out]
   exact⟨rfl,(J.out.trans O.out).then (sC (Kept.refl (aA g) _) _ _ _ _ _ _ _ _ _) (fun i hi=>Or.inl (by
    have h1:i=g:=hi;rw[h1]
    exact V.out))⟩
  |some sm=>
   rw[Ic,Hd];have qy:=FW (bs:=bs);have aB9:=rp bs 512;have af8:=vq bs 512;have hpf:=rp (aj bs 6) 8;obtain⟨X,hX⟩:∃X:Int,X=(jg bs 512:Nat):=⟨_,rfl⟩
   have hS:((bP bs 512:Nat):Int) - (bP (jG bs 6) 8:Nat)+256=X:=by
    rw[uX bs 6 (by omega),hX];omega
   have HS:=Qh hS;have HX:=Qh hX;have Tj:=Qh vJ;have ZD:iC w2 p 512 bs:=(H.out.kept J.out (fun _ _ _=>id)).kept O.out (fun _ _ _=>id);have cB:=Qh ZD;clear qy aB9 af8 hpf hX hS vJ ZD
   by_cases m:sm=X
   ·subst m
    have Xv:Hid (aY (aj bs 6)=some (jg bs 512:Int)):=Qh (by rw[Tj.out,HX.out]);have hbX:(sm==sm)=true:=by simp
    go_wp2_with fail
    refine(Hx N B r (jG bs) p 512 c bs w2 (by omega) cB.out L.out).mono ?_;rintro e w2' ⟨rfl,rfl⟩;rw[HS.out];have lk9:(Instr.lookup 166 (.map (some B)) (.int .i64 9) false).run Tryz.prog w2=.ok (.agg #[.int .i64 257,.slice (some ⟨r 9,0,none⟩) 8 8]) w2:=Z8 L.out 9 (by omega)
    have cs9:(convert 26 9 (.slice (some ⟨r 9,0,none⟩) 8 8)).run Tryz.prog w2=.ok (.string (str (aj bs 9))) w2:=by
     have:=iR (P:=Tryz.prog) (L.out.nB (i:=9) (by omega)) (L.out.fit 9) 26 5 9 Tryz.underlying26 Tryz.underlying5 Tryz.underlying9 8;rw[uX bs 9 (by omega)]at this;exact this
    by_cases hu:aj bs 9=kf
    ·have t:Hid (aj bs 9=kf∨aj bs 9=xZ):=Qh (Or.inl hu)
     have l:=hu;rw[hu,F2]at cs9;clear hu;have z:Hid (x9 bs=false):=Qh (by rw[x9,l];decide);go_wp2_with fail;refine(Aw N B r (jG bs) w2 L.out).mono ?_;intro e w3 h3;obtain⟨A,(⟨u,Q,rfl,b⟩|⟨oH,rfl⟩)⟩:=h3
     ·have HT:Hid (aR bs=(oS bs,0)):=Qh (yf M.out Xv.out t.out (by rw[←tJ];exact u))
      have T:=Qh (O.out.trans A);have D:=Qh (A.some_ G.out id);have U:=Qh (L.out.jq A);have W:=Qh b
      have om:Q≠g∧B≠g∧∀i,i<11→r i≠g:=by
       have h2:=y.out;have h3:=Wx.out;refine⟨fun e=>?_,fun e=>?_,fun i hi e=>?_⟩
       ·obtain⟨es,clock,hb,_⟩:=b
        have h1:=D.out;rw[←e,hb]at h1
        cases h1
       ·have h1:=U.out.lo.1
        omega
       ·have h1:=U.out.lo.2 i hi
        omega
      have o:=Qh om;clear om
      have Y:Hid (∀w',Kept (aA g) w3 w'→
       (Instr.lookup 171 (.map (some Q)) (.int .i64 1) false).run Tryz.prog w'=.ok (.int .i64 (iW bs 1)) w'∧
       (Instr.lookup 171 (.map (some Q)) (.int .i64 2) false).run Tryz.prog w'=.ok (.int .i64 (iW bs 2)) w'∧
       (Instr.lookup 171 (.map (some Q)) (.int .i64 3) false).run Tryz.prog w'=.ok (.int .i64 (iW bs 3)) w'∧
       (Instr.lookup 171 (.map (some Q)) (.int .i64 4) false).run Tryz.prog w'=.ok (.int .i64 (iW bs 4)) w'∧
       (Instr.lookup 171 (.map (some Q)) (.int .i64 5) false).run Tryz.prog w'=.ok (.int .i64 (iW bs 5)) w'):=Qh (fun w' hk=>by
       have hq:=W.out.kept hk o.out.1
       have I:∀i,1≤i→i≤5→(Instr.lookup 171 (.map (some Q)) (sD i) false).run Tryz.prog w'=.ok (.int .i64 (iW bs i)) w':=fun i h1 h2=>
        hq.look (P:=Tryz.prog) Tryz.underlying171 Tryz.underlying170 (by rw[yt _ h1 h2,uX bs i (by omega)];rfl)
       exact⟨I 1 (by omega) (by omega),I 2 (by omega) (by omega),I 3 (by omega) (by omega),I 4 (by omega) (by omega),I 5 (by omega) (by omega)⟩)
      clear A u b;go_wp2_with fail;refine wp_region_any (by kernel_rfl) (yz (w3:=w3) g N B Q r (jG bs) ⟨#[117,115,116,97,114,0,48,48]⟩ false (iW bs 1) (iW bs 2) (iW bs 3) (iW bs 4) (iW bs 5) (show 73≤73 from Qk 73) rfl rfl rfl rfl U.out o.out.2.1 o.out.2.2 D.out (fun w' hk=>Y.out w' hk) (by rw[←F2,ak];decide) ?_);intro a' w' d zi Zu um ow;have hT:(oS bs).j7=false:=z.out
      have S9:Hid (oF (aR bs)=.tuple #[.agg #[.string (str (o4 (av (jG bs 10)) (av (jG bs 0)) false)),.string (str (av (jG bs 8))),.int .u8 ((Fc (jG bs 7)).toNat:Int),.int .i64 (iW bs 1),.int .i64 (iW bs 2),.int .i64 (iW bs 3),.int .i64 (iW bs 5),.int .i64 (iW bs 4),.bool false],.int .i64 0]):=Qh (by
       rw[HT.out];simp only[oF,aa,oS,z.out]
       rfl)
      simp only[Exit.then]
      apply_assumption
      go_wp2;refine bodyPost_ret (jR rfl _ _ g (.int .i64 0) zi Zu _ _ _ _ _ _ _ _ _ um) d ?_;rw[S9.out]
      exact⟨rfl,(J.out.trans T.out).then ow (fun i hi=>Or.inl (by
       have h1:i=g:=hi;rw[h1]
       exact V.out))⟩
     ·have E:Hid (aR bs=(bg,4)):=Qh (zj M.out Xv.out t.out (by rw[←tJ];exact oH))
      have T:=Qh (O.out.trans A);have D:=Qh (A.some_ G.out id);have c0:=bC D.out;have f0:=ct D.out;unfold jD at c0;clear A oH;go_wp2;refine bodyPost_ret (jR rfl _ _ g _ rfl rfl ⟨#[]⟩ ⟨#[]⟩ 0 0 0 0 0 0 false (oQ D.out _ _ _ _ _ _ _ _ _)) rfl ?_;rw[E.out]
      exact⟨rfl,(J.out.trans T.out).then (sC (Kept.refl (aA g) _) _ _ _ _ _ _ _ _ _) (fun i hi=>Or.inl (by
       have h1:i=g:=hi;rw[h1]
       exact V.out))⟩
    ·by_cases q:aj bs 9=xZ
     ·have t:Hid (aj bs 9=kf∨aj bs 9=xZ):=Qh (Or.inr q)
      have l:=q;rw[q,On]at cs9;clear hu q;have z:Hid (x9 bs=true):=Qh (by rw[x9,l];decide);go_wp2_with fail;refine(Aw N B r (jG bs) w2 L.out).mono ?_;intro e w3 h3;obtain⟨A,(⟨u,Q,rfl,b⟩|⟨oH,rfl⟩)⟩:=h3
      ·have HT:Hid (aR bs=(oS bs,0)):=Qh (yf M.out Xv.out t.out (by rw[←tJ];exact u))
       have T:=Qh (O.out.trans A);have D:=Qh (A.some_ G.out id);have U:=Qh (L.out.jq A);have W:=Qh b
       have om:Q≠g∧B≠g∧∀i,i<11→r i≠g:=by
        have h2:=y.out;have h3:=Wx.out;refine⟨fun e=>?_,fun e=>?_,fun i hi e=>?_⟩
        ·obtain⟨es,clock,hb,_⟩:=b
         have h1:=D.out;rw[←e,hb]at h1
         cases h1
        ·have h1:=U.out.lo.1
         omega
        ·have h1:=U.out.lo.2 i hi
         omega
       have o:=Qh om;clear om
       have Y:Hid (∀w',Kept (aA g) w3 w'→
        (Instr.lookup 171 (.map (some Q)) (.int .i64 1) false).run Tryz.prog w'=.ok (.int .i64 (iW bs 1)) w'∧
        (Instr.lookup 171 (.map (some Q)) (.int .i64 2) false).run Tryz.prog w'=.ok (.int .i64 (iW bs 2)) w'∧
        (Instr.lookup 171 (.map (some Q)) (.int .i64 3) false).run Tryz.prog w'=.ok (.int .i64 (iW bs 3)) w'∧
        (Instr.lookup 171 (.map (some Q)) (.int .i64 4) false).run Tryz.prog w'=.ok (.int .i64 (iW bs 4)) w'∧
        (Instr.lookup 171 (.map (some Q)) (.int .i64 5) false).run Tryz.prog w'=.ok (.int .i64 (iW bs 5)) w'):=Qh (fun w' hk=>by
        have hq:=W.out.kept hk o.out.1
        have I:∀i,1≤i→i≤5→(Instr.lookup 171 (.map (some Q)) (sD i) false).run Tryz.prog w'=.ok (.int .i64 (iW bs i)) w':=fun i h1 h2=>
         hq.look (P:=Tryz.prog) Tryz.underlying171 Tryz.underlying170 (by rw[yt _ h1 h2,uX bs i (by omega)];rfl)
        exact⟨I 1 (by omega) (by omega),I 2 (by omega) (by omega),I 3 (by omega) (by omega),I 4 (by omega) (by omega),I 5 (by omega) (by omega)⟩)
       clear A u b;go_wp2_with fail;refine wp_region_any (by kernel_rfl) (yz (w3:=w3) g N B Q r (jG bs) ⟨#[117,115,116,97,114,32,32,0]⟩ true (iW bs 1) (iW bs 2) (iW bs 3) (iW bs 4) (iW bs 5) (show 73≤73 from Qk 73) rfl rfl rfl rfl U.out o.out.2.1 o.out.2.2 D.out (fun w' hk=>Y.out w' hk) (by rw[←On,ak];decide) ?_);intro a' w' d zi Zu um ow;have hT:(oS bs).j7=true:=z.out
       have S9:Hid (oF (aR bs)=.tuple #[.agg #[.string (str (o4 (av (jG bs 10)) (av (jG bs 0)) true)),.string (str (av (jG bs 8))),.int .u8 ((Fc (jG bs 7)).toNat:Int),.int .i64 (iW bs 1),.int .i64 (iW bs 2),.int .i64 (iW bs 3),.int .i64 (iW bs 5),.int .i64 (iW bs 4),.bool true],.int .i64 0]):=Qh (by
        rw[HT.out];simp only[oF,aa,oS,z.out]
        rfl)
       simp only[Exit.then]
       apply_assumption
       go_wp2;refine bodyPost_ret (jR rfl _ _ g (.int .i64 0) zi Zu _ _ _ _ _ _ _ _ _ um) d ?_;rw[S9.out]
       exact⟨rfl,(J.out.trans T.out).then ow (fun i hi=>Or.inl (by
        have h1:i=g:=hi;rw[h1]
        exact V.out))⟩
      ·have E:Hid (aR bs=(bg,4)):=Qh (zj M.out Xv.out t.out (by rw[←tJ];exact oH))
       have T:=Qh (O.out.trans A);have D:=Qh (A.some_ G.out id);have c0:=bC D.out;have f0:=ct D.out;unfold jD at c0;clear A oH;go_wp2;refine bodyPost_ret (jR rfl _ _ g _ rfl rfl ⟨#[]⟩ ⟨#[]⟩ 0 0 0 0 0 0 false (oQ D.out _ _ _ _ _ _ _ _ _)) rfl ?_;rw[E.out]
       exact⟨rfl,(J.out.trans T.out).then (sC (Kept.refl (aA g) _) _ _ _ _ _ _ _ _ _) (fun i hi=>Or.inl (by
        have h1:i=g:=hi;rw[h1]
        exact V.out))⟩
     ·have E:Hid (aR bs=(bg,9)):=Qh (Cp M.out Xv.out ⟨hu,q⟩)
      have q1:((str (aj bs 9)).toList==[117,115,116,97,114,0,48,48])=false:=by rw[ak];exact beq_eq_false_iff_ne.2 hu
      have q2:((str (aj bs 9)).toList==[117,115,116,97,114,32,32,0])=false:=by rw[ak];exact beq_eq_false_iff_ne.2 q
      have c0:=bC G.out;have f0:=ct G.out;unfold jD at c0;clear hu q;go_wp2;refine bodyPost_ret (jR rfl _ _ g _ rfl rfl ⟨#[]⟩ ⟨#[]⟩ 0 0 0 0 0 0 false (oQ G.out _ _ _ _ _ _ _ _ _)) rfl ?_;rw[E.out]
      exact⟨rfl,(J.out.trans O.out).then (sC (Kept.refl (aA g) _) _ _ _ _ _ _ _ _ _) (fun i hi=>Or.inl (by
       have h1:i=g:=hi;rw[h1]
       exact V.out))⟩
   ·have E:Hid (aR bs=(bg,3)):=Qh (vH M.out (by
     rw[Tj.out,←HX.out];intro e
     exact m (Option.some.inj e)))
    have hbX:(sm==X)=false:=by simpa using m
    have c0:=bC G.out;have f0:=ct G.out;unfold jD at c0;go_wp2_with fail;refine(Hx N B r (jG bs) p 512 c bs w2 (by omega) cB.out L.out).mono ?_;rintro e w2' ⟨rfl,rfl⟩;rw[HS.out];go_wp2;refine bodyPost_ret (jR rfl _ _ g _ rfl rfl ⟨#[]⟩ ⟨#[]⟩ 0 0 0 0 0 0 false (oQ G.out _ _ _ _ _ _ _ _ _)) rfl ?_;rw[E.out]
    exact⟨rfl,(J.out.trans O.out).then (sC (Kept.refl (aA g) _) _ _ _ _ _ _ _ _ _) (fun i hi=>Or.inl (by
     have h1:i=g:=hi;rw[h1]
     exact V.out))⟩
 ·have E:Hid (aR bs=(bg,1)):=Qh (E6 (by rw[M.out];exact Jb))
  have hb:((n:Int)==512)=false:=by simp;omega
  have la:Kept ag w (w.alloc (.cells #[.string ⟨#[]⟩,.string ⟨#[]⟩,.int .u8 0,.int .i64 0,.int .i64 0,.int .i64 0,.int .i64 0,.int .i64 0,.bool false] 66)):=(Kept.refl ag w).alloc _;have J:=Qh la;clear la
  go_enter Tryz.func74,Tryz.ntmps74
  go_wp2;refine bodyPost_ret (jR rfl _ _ w.heap.size _ rfl rfl ⟨#[]⟩ ⟨#[]⟩ 0 0 0 0 0 0 false (heap_alloc_new _ _)) rfl ?_;rw[E.out];exact⟨rfl,J.out⟩
end Head
end Go.Proofs.YtdhibldkldlfpaaGreatDoor
