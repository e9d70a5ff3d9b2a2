/- Merged. -/
import Derived.Test.YtdhibldkldlfpaaGreatDoorEmitSortedX22
import Derived.Test.YtdhibldkldlfpaaGreatDoorEmitSortedX30
import Derived.Test.YtdhibldkldlfpaaGreatDoorEmitSortedX38
import Derived.Test.YtdhibldkldlfpaaGreatDoorEmitSortedX39
import Derived.Test.YtdhibldkldlfpaaGreatDoorEmitSortedX40
import Derived.Shelf.SlIter.Sorted
import Derived.Test.YtdhibldkldlfpaaGreatDoorEmitSortedX33
import Derived.Test.YtdhibldkldlfpaaGreatDoorEmitSortedX36
import Derived.Test.YtdhibldkldlfpaaGreatDoorEmitSortedX35
import Derived.Test.YtdhibldkldlfpaaGreatDoorEmitSortedX37
namespace Go.Proofs.YtdhibldkldlfpaaGreatDoor
set_option linter.unusedVariables false
set_option maxHeartbeats 16000000
set_option maxRecDepth 100000
open Go.ChangeShapes Go.WideShapes Go.ChangeAt Go.RowKit Base bM cr Bk Go.Lib
variable {ts:List (List UInt8)} {B b c n:Nat} {p:Option Addr} {W w w':World}
namespace Tre
open Go.Shelf Mk
variable {f:List UInt8→Option Value}
theorem Fg (x y:List UInt8):ltOf pG x y=dx x y:=by
 unfold ltOf;rw[Bool.eq_iff_iff,decide_eq_true_eq,xI]
theorem Zf:Go.Sort.SWO (ltOf pG) where
 irrefl x:=by rw[Fg];exact ji x
 trans x y z h1 h2:=by rw[Fg]at*;exact gy x y z h1 h2
 ntrans x y z h1 h2:=by
  rw[Fg]at*
  cases h:dx x z with
  |false=>rfl
  |true=>rw[yu h h2]at h1;cases h1
def JI (w:World) (ks:List (List UInt8)) (e:Ending) (w':World):Prop:=
 ∃(v:Value) (ts:List (List UInt8)),e=.returned v∧ts.Perm ks∧ts.Pairwise (fun a b=>dx a b=true)∧w'.ownsRow w.heap.size 9 1 v ts.length (ts.map fun x=>.string (str x))∧Below w.heap.size w w'
theorem K7 (B:Nat) (w:World):Calls Tryz.prog 87 #[.map (some B)] w fun e w'=>e=.returned (.func (.func 131) #[] #[.pointer (some ⟨w.heap.size,0,none⟩)])∧w'=w.alloc (.cells #[.map (some B)] 99):=
 callsIn_wide.1 (AnyZ.keys_in Tryz.Ag Fence.wide 4 trivial rfl (some B) w)
theorem IX {ks:List (List UInt8)} (hp:ts.Perm ks) (hn:ks.Nodup) (hs:ts.Pairwise fun a b=>dx b a=false):ts.Pairwise fun a b=>dx a b=true:=by
 have A:ts.Nodup:=hp.nodup_iff.2 hn;have:=hs.and A;refine this.imp fun⟨h1,A⟩=>?_
 exact kS h1 (fun e=>A e.symm)
theorem J9 (Bm B:Nat) (w:World) (hb:w.cell? ⟨Bm,0,none⟩=some (.map (some B))) (hM:cH im w B f) (hlen:∀x v,f x=some v→x.length≤maxLen) (ks:List (List UInt8)) (hnd:ks.Nodup) (nj:∀x,x∈ks↔(f x).isSome=true) (hsz:ks.length≤1000000000):
 Calls Tryz.prog 129 #[.func (.func 131) #[] #[.pointer (some ⟨Bm,0,none⟩)]] w fun e w'=>∃(v:Value) (ss:List (List UInt8)),e=.returned v∧ss.Perm ks∧w'.ownsRow w.heap.size 9 1 v ss.length (ss.map encStr)∧(v=.slice none 0 0↔ss=[])∧Below w.heap.size w w':=by
 obtain⟨D,G,E,A⟩:=Hz (P:=Tryz.prog) Tryz.underlying9 hM hlen ks hnd nj (by unfold maxLen;omega);have H:=AnyZ.keys_gives {Tryz.Ag with} Fence.wide 4 trivial rfl (by omega) Bm B ks.length D w (World.block_lt_of_cell? _ _ hb) hb G;have h:=AnyZ.collect_in Tryz.Ld Fence.wide 6 trivial trivial rfl (by omega) 131 #[.pointer (some ⟨Bm,0,none⟩)] trivial (enters_of Tryz.func131 (by kernel_rfl) rfl) (fun ss=>ss.Perm (strKeys D)) (Maps.size D) (by rw[A];unfold maxLen;omega) (by rw[A];omega) w H;exact(callsIn_wide.1 h).mono fun e w' ⟨v,ss,h1,h2,h3,h4,h5⟩=>⟨v,ss,h1,h2.trans E,h3,h4,h5⟩
theorem D0 (Bm B:Nat) (w:World) (hb:w.cell? ⟨Bm,0,none⟩=some (.map (some B))) (hM:cH im w B f) (hlen:∀x v,f x=some v→x.length≤maxLen) (ks:List (List UInt8)) (hnd:ks.Nodup) (nj:∀x,x∈ks↔(f x).isSome=true) (hsz:ks.length≤1000000000):
 Calls Tryz.prog 86 #[.func (.func 131) #[] #[.pointer (some ⟨Bm,0,none⟩)],.func (.func 88) #[] #[]] w (JI w ks):=by
 have HC:=Qh (J9 Bm B w hb hM hlen ks hnd nj hsz);have d:=Qh hnd;have c:=Qh hsz;clear hb hM hlen hnd nj hsz
 go_enter Tryz.func86,Tryz.ntmps86
 go_wp2_with fail
 refine HC.out.mono ?_;rintro e W ⟨v,ss,rfl,A,I,V,D⟩;rcases I.2 with⟨rfl,hz⟩|⟨gb,cap,cur,rfl,L,G,N,O,R,r4⟩
 ·have o:ss=[]:=List.eq_nil_of_length_eq_zero hz
  subst o;have P:=Qh (And.intro A (And.intro I D));have H:=Qh (AnyF.slices_SortFunc_none Tryz.Ho none 0 (.func (.func 88) #[] #[]) W);change Hid (Calls Tryz.prog 130 _ _ _)at H;clear A I D V;go_wp2_with fail;refine H.out.mono ?_;rintro e p ⟨rfl,rfl⟩;go_wp2;go_ret;exact⟨.slice none 0 0,[],rfl,P.out.1,List.Pairwise.nil,by simpa using P.out.2.1,P.out.2.2⟩
 ·have hH:Go.Sort.Holds encStr W gb 0 ss.toArray:=holds_of_block G (by simpa using r4)
  have X:gb<W.heap.size:=(Array.getElem?_eq_some_iff.1 G).1;have hl:ss.length≤1000000000:=by rw[A.length_eq];exact c.out
  have J:=Any.slices_SortFunc Tryz.Hn encStr (fun _=>rfl) pG Zf 88 #[] gb 0 cap ss.toArray W (enters_of Tryz.func88 (by kernel_rfl) rfl)
   (fun m os q _ x y=>(qw x y _).mono fun e w' ⟨h1,h2⟩=>⟨h1,0,#[],by rw[←h2,Go.Sort.grow_empty];rfl⟩) hH X (by simp;omega)
  change Calls Tryz.prog 130 _ _ _ at J;rw[List.size_toArray]at J;have H:=Qh J;have P:=Qh (And.intro A (And.intro D (And.intro L (And.intro G (And.intro N (And.intro O R))))));clear J A D V I hH X hl r4;go_wp2_with fail;refine H.out.mono ?_;rintro e p ⟨rfl,d',g,os,Y,hs,rfl⟩;have Z:=Qh (And.intro Y hs);clear Y hs;go_wp2;go_ret;obtain⟨A,D,L,G,N,O,R⟩:=P.out;obtain⟨⟨T,_,b⟩,hs⟩:=Z.out;have M:d'.toList.length=ss.length:=by simpa using T
  have U:d'.toList.Perm ss:=by
   have:(d'.extract 0 ss.length).toList.Perm (ss.toArray.extract 0 ss.length).toList:=b;have e:ss.length=d'.size:=by simpa using T.symm
   simpa [e,List.take_of_length_le (Nat.le_of_eq e)]using this
  refine⟨_,d'.toList,rfl,U.trans A,IX (U.trans A) d.out ?_,?_,D.grown (grownBy_sorted _) D.size (fun j E=>by cases E;exact L)⟩
  ·refine List.pairwise_iff_getElem.2 fun i j hi E l=>?_
   have:=hs i j (Nat.zero_le _) l (by rw[M]at E;exact E);rw[Fg]at this;simp only[Array.length_toList]at hi E
   simpa [getElem!_pos,hi,E]using this
  ·rw[M]
   have:=ownsRow_sorted (w:=W) (base:=w.heap.size) (n:=g) (e:=9) (os:=os) (ss:=ss) (ts:=d'.toList) M L G N O R;simp only[Array.toArray_toList]at this;exact this
end Tre
namespace Tre
open Mk Mem
def Av:ij Nat where
 enc n:=.int .i64 (n:Int)
 kind:=.int .i64
 isKey _:=rfl
 inj a b h:=by injection h with _ h;omega
 same a:=by simp[Instr.sameBits]
def Tx (w:World) (p:Option Addr) (n:Nat) (ts:List (List UInt8)):Prop:=
 0<n→∃b o,p=some ⟨b,o,none⟩∧b<w.heap.size∧∀i,i<n→w.cell? ⟨b,o+i,none⟩=some (.string (str (ts.getD i [])))
theorem Tx.bZ {S:Nat→Prop} (h:Tx w p n ts) (hk:Kept S w w') (hn:∀k,k<w.heap.size→¬S k):Tx w' p n ts:=fun B=>by
 obtain⟨b,o,rfl,A,hc⟩:=h B;exact⟨b,o,rfl,Nat.lt_of_lt_of_le A hk.size,fun i hi=>by rw[World.cell?_of_block (hk.block b A (hn b A))];exact hc i hi⟩
theorem DU {base:Nat} {e:TypeId} {v:Value} (h:w.ownsRow base e 1 v ts.length (ts.map fun x=>.string (str x))):
 ∃p c,v=.slice p ts.length c∧Tx w p ts.length ts:=by
 have D:=h;have B:=h.lt;rcases h.2 with⟨rfl,A⟩|⟨g,cap,cur,rfl,hg,_,h1,h2,_⟩
 ·exact⟨none,0,by rw[A],fun E=>by omega⟩
 ·refine⟨some ⟨g,0,none⟩,cap,rfl,fun A=>⟨g,0,rfl,(B g rfl).2,fun i hi=>?_⟩⟩
  rw[Nat.zero_add,D.cellAt i (by omega),List.getElem?_map,Qd (by omega)];simp[List.getD,hi]
def l9 (f:Nat→Option Nat):Nat→Option Value:=fun x=>(f x).map fun n=>.int .i64 (n:Int)
def JN (w:World) (t:List ay) (e:Ending) (w':World):Prop:=
 ∃q d zs,e=.returned (.slice q t.length d)∧zs.map NP.m=t∧aY w' q t.length zs∧t.length≤d∧d≤maxLen∧Below w.heap.size w w'∧(∀x,q=some x→w.heap.size≤x.block)∧(∀y∈zs,∀x,y.p=some x→w.heap.size≤x.block)
structure TI (w w4 wr:World) (gt bl g B:Nat) (p:Option Addr) (n c:Nat) (ms:List aq) (S T:St) (k:Nat) (zs:List NP):Prop where
 bel:Below w.heap.size w wr
 kp:Kept (qf gt (some bl)) w4 wr
 lay:lA wr g B p n c (look S)
 row:Rw wr gt zs
 len:zs.length=T.length
 map:cH Av wr bl (l9 (leads ms T k))
 done:∀j,j<k→(zs.getD j aH).m=qN ms T (T.getD j ([],0))
 rest:∀j,k≤j→zs.getD j aH=aH
 zt:∀x∈zs,cU wr x∧∀a,x.p=some a→w4.heap.size≤a.block
theorem TI.step {w4 wr W':World} {gt bl g:Nat} {ms:List aq} {S T:St} {k:Nat} {zs:List NP} (hI:TI w w4 wr gt bl g B p n c ms S T k zs) (hk:k<T.length) (vY:Kept (qf gt (some bl)) wr W') (hb:Below w.heap.size w W')
 (hw:w.heap.size≤gt∧w.heap.size≤bl∧gt<w4.heap.size∧bl<w4.heap.size) (ax:g<w.heap.size∧B<w.heap.size) {y:NP} (cJ:Rw W' gt (zs.set k y)) (uQ:cH Av W' bl (l9 (leads ms T (k+1)))) (hy:y.m=qN ms T (T.getD k ([],0))) (rp:cU W' y) (Rz:∀a,y.p=some a→w4.heap.size≤a.block):
 TI w w4 W' gt bl g B p n c ms S T (k+1) (zs.set k y):=by
 have E:k<zs.length:=by rw[hI.len];exact hk
 have off:∀b,b<w.heap.size→¬qf gt (some bl) b:=fun b hb h=>by
  rcases h with h|h
  ·omega
  ·cases h;omega
 refine⟨hb,hI.kp.trans vY,⟨hI.lay.obj.bZ vY (off g ax.1),hI.lay.map.kept vY (off B ax.2)⟩,cJ,by rw[List.length_set];exact hI.len,uQ,fun j H=>?_,fun j H=>?_,fun x A=>?_⟩
 ·rw[getSet zs k j y E]
  by_cases h:j=k
  ·rw[if_pos h,h];exact hy
  ·rw[if_neg h];exact hI.done j (by omega)
 ·rw[getSet zs k j y E,if_neg (by omega)]
  exact hI.rest j (by omega)
 ·rcases List.mem_or_eq_of_mem_set A with A|rfl
  ·obtain⟨h1,D⟩:=hI.zt x A
   refine⟨h1.kept vY (fun _ a G h=>?_),D⟩;have:=D a G;rcases h with h|h
   ·omega
   ·injection h with h;omega
  ·exact⟨rp,Rz⟩
theorem Lp {y:MP} (h:ao W b 48 y.cs):
 W.cell? ⟨b,1,none⟩=some (.string (str y.m.target))∧W.cell? ⟨b,2,none⟩=some (.int .u8 (y.m.kind.toNat:Int))∧W.cell? ⟨b,3,none⟩=some (.int .i64 y.m.mode)∧W.cell? ⟨b,4,none⟩=some (.int .i64 y.m.uid)∧W.cell? ⟨b,5,none⟩=some (.int .i64 y.m.gid)∧W.cell? ⟨b,6,none⟩=some (.int .i64 y.m.time)∧W.cell? ⟨b,7,none⟩=some (.slice y.p y.m.body.length y.c):=
 ⟨h.cell 1,h.cell 2,h.cell 3,h.cell 4,h.cell 5,h.cell 6,h.cell 7⟩
theorem tI (S:St) (x:List UInt8):(fz (look S) x).isSome=(look S x).isSome:=by
 unfold fz
 cases look S x<;>rfl
theorem Mn (g B:Nat) (p:Option Addr) (n c:Nat) (xs:List MP) (S:St) (w:World) (hM:cN w p n xs) (hn:n≤1000000000) (hL:lA w g B p n c (look S)) (hA:iW S) (hS:MF S n) (hsz:S.length≤1000000) (hlen:∀e∈S,e.1.length≤maxLen) (hR:∀x∈xs,x.m.body.length≤140737488351232):
 Calls Tryz.prog 61 #[.pointer (some ⟨g,0,none⟩)] w (JN w (mC (xs.map MP.m) S)):=by
 obtain⟨i0,hi,fV,fb,fg⟩:=info_parts E8;have HI:=Qh hi;have lu:=Qh fV;have j5:=Qh fb;have lx:=Qh fg;have yU:=@run_makeMap Tryz.prog;have HM:=Qh hM;have yS:=Qh hM.1;have HL:=Qh hL;have HA:=Qh hA;have HS:=Qh hS;have lg:=Qh hlen;have O1:=Qh hR;have g1:=hL.obj.cell 1;simp only[Qc,Qa,Qb]at g1;have fE:=Qh (K7 B w);have dG:Below w.heap.size w (w.alloc (.cells #[.map (some B)] 99)):=(Below.refl _ _).alloc (Qk _) _;have QQ:=hL.below dG
 have ie:=Qh (D0 w.heap.size B (w.alloc (.cells #[.map (some B)] 99)) ((ao.new w 99 #[.map (some B)]).cell 0) QQ.map (fun x v hv=>by
  have:x∈S.map (·.1):=(lW x).1 (by rw[←tI,hv];rfl);obtain⟨e,he,rfl⟩:=List.mem_map.1 this
  exact hlen e he) (S.map fun e:List UInt8 × Nat=>e.1) hA (fun x=>by rw[tI,lW]) (by rw[Qi];omega))
 have Qp:=Qh dG;have gj:=Qh hsz;clear hi fV fb fg hM hL hA hS hlen hR QQ dG hsz
 go_enter Tryz.func61,Tryz.ntmps61
 go_wp2_with fail
 refine fE.out.mono ?_;rintro e w1 ⟨rfl,rfl⟩;go_wp2_with fail;refine ie.out.mono ?_;rintro e A ⟨v,ts,rfl,gT,Pv,u,bY⟩;obtain⟨p3,c3,rfl,UK⟩:=DU u;have bL:=Qh (Qp.out.trans (bY.mono Qp.out.size));have Nj:=Qh UK;have Td:=Qh (And.intro gT Pv);have MR:ts.length=S.length:=by rw[gT.length_eq,Qi]
 have FJ:=Qh MR;obtain⟨m,hm⟩:∃m,ts.length=m:=⟨_,rfl⟩
 rw[hm]at Nj FJ⊢;have WR:=Qh hm;have Uy:m≤1000000:=by rw[←hm,MR];exact gj.out
 clear gT Pv u bY UK MR hm g1 fE ie
 go_wp2_with (at_make;refine wpList_make_full _ rfl _ _ 22 rfl A.heap.size 52 i0 _ 9 Tryz.underlying22 HI.out lu.out j5.out .i64 .i64 _ _ m rfl rfl rfl rfl ?mk1 ?mk2 (Qk _) ?_)
 case mk1=>rw[lx.out];omega
 case mk2=>unfold maxLen;omega
 intro w3 lR bw
 have MU:=FC (B:=A.heap.size) (w':=w3) (g:=A.heap.size) (n:=m) (by
  have h9:=lR;rw[tA]at h9
  exact h9)
 have dv:Kept ag A w3:=(Kept.refl ag A).grown bw (fun k h=>by cases h);have fq:Below A.heap.size A w3:=dv.below (Qk _) (fun _ h=>h.elim);have O2:=Qh MU;have eW:=Qh fq;have X:Hid (A.heap.size<w3.heap.size):=Qh (ao.lt MU);clear lR bw MU dv fq;obtain⟨w4,ry⟩:∃w4,w3.alloc (.map #[] 0)=w4:=⟨_,rfl⟩
 have fw:Below w3.heap.size w3 w4:=by rw[←ry];exact(Below.refl _ _).alloc (Qk _) _
 have NY:cH Av w4 w3.heap.size (fun _=>none):=by rw[←ry];exact iU Av w3
 have N4:w4.heap.size=w3.heap.size+1:=by rw[←ry];simp
 obtain⟨T,hT⟩:∃T,lf S=T:=⟨_,rfl⟩
 have HT:Hid (T=ts.map fun x=>(x,(look S x).getD 0)):=Qh (by rw[←hT];exact Hk HA.out Td.out.1 Td.out.2);have ZH:Hid (mC (xs.map MP.m) S=T.map (qN (xs.map MP.m) T)):=Qh (by rw[mC,hT]);have ME:Hid (T.length=m):=Qh (by rw[HT.out,Qi,WR.out]);have nz:=Qh (bL.out.trans ((eW.out.trans (fw.mono eW.out.size)).mono bL.out.size));have Tr:Hid (Tx w4 p3 m ts):=Qh (Nj.out.bZ (Kept.aR (eW.out.trans (fw.mono eW.out.size)) ag) (fun _ _ h=>h.elim))
 have rE:Hid (0<m→∀a,p3=some a→a.block<A.heap.size):=Qh (fun h0 a O=>by
  obtain⟨b,o,he,hb,_⟩:=Nj.out h0;rw[O]at he
  cases he
  exact hb)
 have VA:Hid (TI w w4 w4 A.heap.size w3.heap.size g B p n c (xs.map MP.m) S T 0 (List.replicate m aH)):=Qh
  {bel:=nz.out,kp:=Kept.refl _ _,lay:=HL.out.below nz.out,row:=ao.below O2.out fw X.out,len:=by rw[List.length_replicate,ME.out]
   map:=by
    have e:l9 (leads (xs.map MP.m) T 0)=fun _=>none:=by funext n;unfold l9;rw[Df];rfl
    rw[e];exact NY
   done:=fun j hj=>by omega
   rest:=fun j _=>by
    rw[List.getD,List.getElem?_replicate];split<;>rfl
   zt:=fun x H=>by
    rw[(List.mem_replicate.1 H).2]
    exact⟨Bj _,fun a h=>by cases h⟩}
 have WO:=Qh N4;clear fw NY hT O2 eW Nj N4;go_upto_region 4 with fail;clear ry yU;go_wp2_with fail
 go_loopw [6,7,8,9,10,11,24,59] (fun _ _ _ _ _ _ i _ wr=>∃(k:Nat) (zs:List NP),k≤m∧i=.int .i64 (k:Int)∧Hid (TI w w4 wr A.heap.size w3.heap.size g B p n c (xs.map MP.m) S T k zs)) (fun _ _ _ _ _ _ i _ _=>m - (RowKit.intOf i).toNat)
 case atStart=>exact⟨0,List.replicate m aH,Nat.zero_le _,rfl,VA⟩
 case round=>
  obtain⟨k,zs,hk,rfl,D⟩:=hrel
  by_cases ax:k<m
  ·have L:k<T.length:=by rw[ME.out];exact ax
   have R:k<zs.length:=by rw[D.out.len];exact L
   have NU:k<ts.length:=by rw[WR.out];exact ax
   obtain⟨x,H⟩:∃x,ts.getD k []=x:=⟨_,rfl⟩
   have hxm:x∈ts:=by rw[←H,List.getD,Qd NU];exact List.getElem_mem NU
   obtain⟨E,Po⟩:=Option.isSome_iff_exists.1 ((lW x).2 (Td.out.1.mem_iff.1 hxm))
   have t:T.getD k ([],0)=(x,E):=by
    rw[HT.out,List.getD,List.getElem?_map,Qd NU];rw[List.getD,Qd NU]at H;simp only[Option.getD_some]at H;simp only[Option.map_some,Option.getD_some,H,Po]
   have Jp:E<n:=HS.out.look Po
   have I:w.heap.size≤A.heap.size∧w.heap.size≤w3.heap.size∧A.heap.size<w4.heap.size∧w3.heap.size<w4.heap.size:=by
    have h1:=bL.out.size;have N:=X.out;have h3:=WO.out;omega
   have U:g<w.heap.size∧B<w.heap.size:=⟨HL.out.obj.lt,HL.out.map.lt⟩
   obtain⟨b3,o3,V6,fq,vT⟩:=Tr.out (by omega);have QX:=rE.out (by omega) _ V6;subst V6
   have T1:¬qf A.heap.size (some w3.heap.size) b3:=fun h=>by
    have h3:=X.out;rcases h with h|h
    ·simp only at QX;omega
    ·injection h with h;simp only at QX;omega
   have P1:Hid (∀W',Kept (qf A.heap.size (some w3.heap.size)) w4 W'→∀i,i<m→W'.cell? ⟨b3,o3+i,none⟩=some (.string (str (ts.getD i [])))):=Qh (fun W' hk i hi=>by
    rw[World.cell?_of_block (hk.block b3 fq T1)];exact vT i hi)
   have z0:=P1.out wr D.out.kp k ax;rw[H]at z0;have g0:=D.out.lay.obj.cell 0;have g1:=D.out.lay.obj.cell 1;simp only[Qc,Qa,Qb]at g0 g1
   have lk:(Instr.lookup 99 (.map (some B)) (.string (str x)) false).run Tryz.prog wr=.ok (.int .i64 (E:Int)) wr:=by
    have h:=D.out.lay.map.look (P:=Tryz.prog) Tryz.underlying99 Tryz.underlying9 (z:=.int .i64 0) (fun w=>Tryz.zeroValue3 w) x;rw[show fz (look S) x=some (.int .i64 (E:Int)) by rw[fz,Po];rfl]at h;exact h
   obtain⟨b1,o1,Bv,cg,mN,Q0⟩:=(HM.out.below D.out.bel).eo Jp;subst Bv;have Kt:=eb xs E;have XD:=O1.out _ (lN xs E (by rw[yS.out];exact Jp));obtain⟨y,hy⟩:∃y,xs.getD E bC=y:=⟨_,rfl⟩
   rw[hy]at mN Q0 Kt XD;obtain⟨c0,c1,c2,c3,c4,c5,c6,c7⟩:=Q0;obtain⟨W5,nN⟩:∃W5,wr.alloc (.cells y.cs 48)=W5:=⟨_,rfl⟩
   have uC:Below wr.heap.size wr W5:=by rw[←nN];exact(Below.refl _ _).alloc (Qk _) _
   have VF:ao W5 wr.heap.size 48 y.cs:=by rw[←nN];exact ao.new wr _ _
   have xt:=Qh uC;have Vp:=Qh VF;have PW:Hid (∀w',Below W5.heap.size W5 w'→w'.cell? ⟨wr.heap.size,1,none⟩=some (.string (str y.m.target))∧w'.cell? ⟨wr.heap.size,2,none⟩=some (.int .u8 (y.m.kind.toNat:Int))∧w'.cell? ⟨wr.heap.size,3,none⟩=some (.int .i64 y.m.mode)∧w'.cell? ⟨wr.heap.size,4,none⟩=some (.int .i64 y.m.uid)∧w'.cell? ⟨wr.heap.size,5,none⟩=some (.int .i64 y.m.gid)∧w'.cell? ⟨wr.heap.size,6,none⟩=some (.int .i64 y.m.time)∧w'.cell? ⟨wr.heap.size,7,none⟩=some (.slice y.p y.m.body.length y.c)):=Qh (fun w' h=>Lp (VF.below h VF.lt));have W:Hid (Below W5.heap.size W5 W5.drew):=Qh (below_drewN (Below.refl W5.heap.size W5) 1);have M4:Hid (∀w',Below W5.heap.size W5 w'→Calls Tryz.prog 49 #[.slice y.p y.m.body.length y.c] w' (iO w' y.m.body.length y.m.body)):=Qh (fun w' h=>kb y.p y.m.body.length y.c y.m.body w' ((mN.below uC).below h).ib rfl XD);unfold iO at M4;have G:=Qh (And.intro L (And.intro R (And.intro t (And.intro I U))));have vy:=Qh Kt;have M8:Hid (A.heap.size<wr.heap.size):=Qh (ao.lt D.out.row);have Yy:(E:Int)<(n:Int):=by omega
   have UC:(0:Int)≤(E:Int):=by omega
   have ab9:(k:Int)<(m:Int):=by omega
   unfold MP.cs cP at nN;have HX:=Qh H;clear L R NU hxm t Jp I U fq vT QX T1 cg mN Kt XD hy uC VF Po H;go_upto_region 9 with fail;clear nN c0 c1 c2 c3 c4 c5 c6 c7 g0 g1 lk z0;go_wp2_with fail
   go_region_held_law (fun w'=>w'.cell? ⟨wr.heap.size,1,none⟩=some (.string (str y.m.target))∧w'.cell? ⟨wr.heap.size,2,none⟩=some (.int .u8 (y.m.kind.toNat:Int))∧w'.cell? ⟨wr.heap.size,3,none⟩=some (.int .i64 y.m.mode)∧w'.cell? ⟨wr.heap.size,4,none⟩=some (.int .i64 y.m.uid)∧w'.cell? ⟨wr.heap.size,5,none⟩=some (.int .i64 y.m.gid)∧w'.cell? ⟨wr.heap.size,6,none⟩=some (.int .i64 y.m.time)∧w'.cell? ⟨wr.heap.size,7,none⟩=some (.slice y.p y.m.body.length y.c)) (first|with_reducible exact PW.out _ W.out|exact Lp (A8 pB.out (Nat.ne_of_lt M8.out) _ _ _ _ _ _ _ _ _)) (first
    |(go_at_call 49
      refine(M4.out _ ?_).mono ?_
      (with_reducible exact W.out)
      rintro e wa ⟨q,d,rfl,hle,E0,pQ,CR,nb⟩;have W:=Qh (W.out.trans (nb.mono W.out.size));have pB:=Qh (Vp.out.below W.out Vp.out.lt);have J:Rw wa A.heap.size zs:=ao.below (ao.below D.out.row xt.out M8.out) W.out (Nat.lt_of_lt_of_le M8.out xt.out.size);have xz:=Qh J;have P:=Qh (And.intro hle (And.intro E0 (And.intro pQ CR)));obtain⟨r0,r1,r2,r3,r4,r5,r6,r7,r8⟩:=J.dV G.out.2.1;have f0:=ao.frozen J (k*9);have f1:=ao.frozen J (k*9+1);have f2:=ao.frozen J (k*9+2);have f3:=ao.frozen J (k*9+3);have f4:=ao.frozen J (k*9+4);have f5:=ao.frozen J (k*9+5);have f6:=ao.frozen J (k*9+6);have f7:=ao.frozen J (k*9+7);have f8:=ao.frozen J (k*9+8)
      clear hle E0 pQ CR nb J))
   obtain⟨W6,EL⟩:∃W6,(((((((((wa.setCell ⟨A.heap.size,k*9,none⟩ (.string (str x))).setCell ⟨A.heap.size,k*9+1,none⟩ (.string (str y.m.target))).setCell ⟨A.heap.size,k*9+2,none⟩ (.string ⟨#[]⟩)).setCell ⟨A.heap.size,k*9+3,none⟩ (.int .u8 (y.m.kind.toNat:Int))).setCell ⟨A.heap.size,k*9+4,none⟩ (.int .i64 y.m.mode)).setCell ⟨A.heap.size,k*9+5,none⟩ (.int .i64 y.m.uid)).setCell ⟨A.heap.size,k*9+6,none⟩ (.int .i64 y.m.gid)).setCell ⟨A.heap.size,k*9+7,none⟩ (.int .i64 y.m.time)).setCell ⟨A.heap.size,k*9+8,none⟩ (.slice q y.m.body.length d))=W6:=⟨_,rfl⟩
   have EV:Kept (aA A.heap.size) wa W6:=by rw[←EL];exact FB (S:=aA A.heap.size) rfl _ _ _ _ _ _ _ _ _
   have Pt:Rw W6 A.heap.size (zs.set k ⟨gV x y.m [],q,d⟩):=by rw[←EL];exact xz.out.set G.out.2.1 ⟨gV x y.m [],q,d⟩
   have Pk:ao W6 wr.heap.size 48 y.cs:=by rw[←EL];exact A8 pB.out (Nat.ne_of_lt M8.out) _ _ _ _ _ _ _ _ _
   rw[EL];clear EL r0 r1 r2 r3 r4 r5 r6 r7 r8 f0 f1 f2 f3 f4 f5 f6 f7 f8;have YQ:Below wr.heap.size wr wa:=xt.out.trans (W.out.mono xt.out.size);have Jv:Hid (Kept (qf A.heap.size (some w3.heap.size)) wr W6):=Qh ((Kept.aR YQ _).trans (EV.mono (fun k h=>.inl h)))
   have r:Hid (∀a,q=some a→w4.heap.size≤a.block):=Qh (fun a O=>by
    have h1:=P.out.2.2.2 a O;have N:=xt.out.size;have h3:=D.out.kp.size;have h4:W5.heap.size≤a.block:=h1
    omega)
   have Y:Hid (cU W6 ⟨gV x y.m [],q,d⟩):=Qh ⟨P.out.2.2.1.kept EV (fun _ a O h=>by
    have h1:=r.out a O;have N:a.block=A.heap.size:=h;have h3:=G.out.2.2.2.1.2.2.1
    omega),P.out.1,P.out.2.1⟩
   have nB:Hid (cH Av W6 w3.heap.size (l9 (leads (xs.map MP.m) T k))):=Qh ((D.out.map.kept (Kept.aR YQ ag) (fun h=>h.elim)).kept EV (fun e=>by have h1:=X.out;have N:w3.heap.size=A.heap.size:=e;omega));have JD:=Qh Pt
   have mG:Hid (qN (xs.map MP.m) T (T.getD k ([],0))=gV x y.m (if y.m.kind=48 then np T E else[])):=Qh (by
    rw[G.out.2.2.1];unfold qN
    rw[vy.out])
   have y2:=Pk.cell 2;have ek:=oN y.m.kind 48 48 rfl;obtain⟨kn,bT⟩:∃kn:Int,(y.m.kind.toNat:Int)=kn:=⟨_,rfl⟩
   simp only[MP.cs,cP,Qc,Qa,Qb]at y2;rw[bT]at y2 ek;clear YQ EV Pt Pk bT
   by_cases V:y.m.kind=48
   ·rw[decide_eq_true V]at ek
    have R8:=Qh V;have Wv:Hid (((xs.map MP.m).getD (T.getD k ([],0)).2 bB).kind=48):=Qh (by rw[G.out.2.2.1,vy.out];exact V);have Z:=Qh (nB.out.look_ok (P:=Tryz.prog) Tryz.underlying156 Tryz.underlying3 (z:=.int .i64 0) (fun w=>Tryz.zeroValue3 w) E);have Tu:Hid ((T.getD k ([],0)).2=E):=Qh (by rw[G.out.2.2.1]);obtain⟨fo,uO⟩:∃fo,leads (xs.map MP.m) T k E=fo:=⟨_,rfl⟩
    have xw:=Qh uO;unfold l9 at Z;rw[uO]at Z;clear V uO
    cases fo with
    |none=>
     have RH:(Instr.lookup 156 (.map (some w3.heap.size)) (.int .i64 (E:Int)) true).run Tryz.prog W6=.ok (.tuple #[.int .i64 0,.bool false]) W6:=Z.out;clear Z
     go_wp2_with (at_mapUpdate;refine cR (K:=Av) rfl (.tmp 68) (.tmp 69) (.tmp 70) rfl Tryz.underlying156 Tryz.underlying3 w3.heap.size nB.out rfl E rfl (.int .i64 (k:Int)) rfl ?_)
     intro w7 rO uG Rr;have Rg:Kept (qf A.heap.size (some w3.heap.size)) W6 w7:=uG.out.mono (fun k h=>.inr (by rw[show k=w3.heap.size from h]));have S4:=Qh (Jv.out.trans Rg);have M:Rw w7 A.heap.size (zs.set k ⟨gV x y.m [],q,d⟩):=ao.bZ JD.out uG.out (fun e=>by have h1:=X.out;have N:A.heap.size=w3.heap.size:=e;omega);have z0:=P1.out w7 (D.out.kp.trans S4.out) k ax;rw[HX.out]at z0
     have TM:cH Av w7 w3.heap.size (l9 (leads (xs.map MP.m) T (k+1))):=by
      have e:=Hs G.out.1 Wv.out (by rw[Tu.out];exact xw.out)
      have e2:l9 (leads (xs.map MP.m) T (k+1))=fun y=>if y=E then some (.int .i64 (k:Int))else l9 (leads (xs.map MP.m) T k) y:=by
       funext v
       unfold l9;rw[e,Tu.out]
       by_cases h:v=E<;>simp[h]
      rw[e2];exact rO.out
     have TL:np T E=x:=by
      have h:=tt G.out.1 Wv.out;rw[Tu.out,xw.out,Option.getD_none,G.out.2.2.1]at h;exact h
     have HN:Hid (TI w w4 (w7.setCell ⟨A.heap.size,k*9+2,none⟩ (.string (str x))) A.heap.size w3.heap.size g B (some ⟨b1,o1,none⟩) n c (xs.map MP.m) S T (k+1) (zs.set k ⟨gV x y.m x,q,d⟩)):=by
      have vY:Kept (qf A.heap.size (some w3.heap.size)) wr (w7.setCell ⟨A.heap.size,k*9+2,none⟩ (.string (str x))):=S4.out.setCell (a:=⟨A.heap.size,k*9+2,none⟩) (.inr (.inl rfl)) _;have Rt:Kept (aA A.heap.size) w7 (w7.setCell ⟨A.heap.size,k*9+2,none⟩ (.string (str x))):=(Kept.refl (aA A.heap.size) _).setCell (a:=⟨A.heap.size,k*9+2,none⟩) (.inr rfl) _;obtain⟨L,R,t,I,U⟩:=G.out
      have u:Rw (w7.setCell ⟨A.heap.size,k*9+2,none⟩ (.string (str x))) A.heap.size (zs.set k ⟨gV x y.m x,q,d⟩):=by
       have h:=Rw.lead (k:=k) M (by rw[List.length_set];exact R) x;rw[List.set_set,getSet zs k k _ R,if_pos rfl]at h;exact h
      refine Qh (D.out.step L vY (D.out.bel.trans (vY.below D.out.bel.size (fun b hb=>by
       rcases hb with hb|hb
       ·rw[hb];exact I.1
       ·injection hb with hb;rw[hb];exact I.2.1))) I U u (TM.kept Rt (fun e=>by have h1:=X.out;have N:w3.heap.size=A.heap.size:=e;omega)) ?_ ?_ ?_)
      ·rw[mG.out]
       show gV x y.m x=_;rw[if_pos R8.out,TL]
      ·exact⟨(Y.out.ib.kept (Rg.setCell (a:=⟨A.heap.size,k*9+2,none⟩) (.inr (.inl rfl)) _) (fun _ a O h=>by
        have h1:=r.out a O;rcases h with h|h
        ·omega
        ·injection h with h;omega)),Y.out.le,Y.out.mx⟩
      ·exact r.out
     have r2:=(M.dV (show k<(zs.set k ⟨gV x y.m [],q,d⟩).length by rw[List.length_set];exact G.out.2.1)).2.2.1;have f2:=ao.frozen M (k*9+2);have hkm:(k:Int)<(m:Int):=by omega
     clear Rg M TM TL rO uG Rr;go_wp2;go_roundw
     case rel=>exact⟨k+1,_,by omega,by go_num,HN⟩
     case measure=>simp[RowKit.intOf];omega
    |some f=>
     have hfk:=Li xw.out;have hfm:f<m:=by omega
     have RH:(Instr.lookup 156 (.map (some w3.heap.size)) (.int .i64 (E:Int)) true).run Tryz.prog W6=.ok (.tuple #[.int .i64 (f:Int),.bool true]) W6:=Z.out;obtain⟨l,hl⟩:∃l,ts.getD f []=l:=⟨_,rfl⟩
     have z0:=P1.out W6 (D.out.kp.trans Jv.out) f hfm;rw[hl]at z0
     have TM:cH Av W6 w3.heap.size (l9 (leads (xs.map MP.m) T (k+1))):=by
      rw[Ht G.out.1 (by rw[Tu.out];exact xw.out)];exact nB.out
     have TL:np T E=l:=by
      have h:=tt G.out.1 Wv.out;rw[Tu.out,xw.out,Option.getD_some]at h;rw[h,←hl,HT.out,List.getD,List.getD,List.getElem?_map,Qd (show f<ts.length by rw[WR.out];exact hfm)];rfl
     have M:=JD.out
     have HN:Hid (TI w w4 (W6.setCell ⟨A.heap.size,k*9+2,none⟩ (.string (str l))) A.heap.size w3.heap.size g B (some ⟨b1,o1,none⟩) n c (xs.map MP.m) S T (k+1) (zs.set k ⟨gV x y.m l,q,d⟩)):=by
      have vY:Kept (qf A.heap.size (some w3.heap.size)) wr (W6.setCell ⟨A.heap.size,k*9+2,none⟩ (.string (str l))):=Jv.out.setCell (a:=⟨A.heap.size,k*9+2,none⟩) (.inr (.inl rfl)) _;have Rt:Kept (aA A.heap.size) W6 (W6.setCell ⟨A.heap.size,k*9+2,none⟩ (.string (str l))):=(Kept.refl (aA A.heap.size) _).setCell (a:=⟨A.heap.size,k*9+2,none⟩) (.inr rfl) _;obtain⟨L,R,t,I,U⟩:=G.out
      have u:Rw (W6.setCell ⟨A.heap.size,k*9+2,none⟩ (.string (str l))) A.heap.size (zs.set k ⟨gV x y.m l,q,d⟩):=by
       have h:=Rw.lead (k:=k) M (by rw[List.length_set];exact R) l;rw[List.set_set,getSet zs k k _ R,if_pos rfl]at h;exact h
      refine Qh (D.out.step L vY (D.out.bel.trans (vY.below D.out.bel.size (fun b hb=>by
       rcases hb with hb|hb
       ·rw[hb];exact I.1
       ·injection hb with hb;rw[hb];exact I.2.1))) I U u (TM.kept Rt (fun e=>by have h1:=X.out;have N:w3.heap.size=A.heap.size:=e;omega)) ?_ ?_ ?_)
      ·rw[mG.out]
       show gV x y.m l=_;rw[if_pos R8.out,TL]
      ·exact⟨(Y.out.ib.kept ((Kept.refl (qf A.heap.size (some w3.heap.size)) W6).setCell (a:=⟨A.heap.size,k*9+2,none⟩) (.inr (.inl rfl)) _) (fun _ a O h=>by
        have h1:=r.out a O;rcases h with h|h
        ·omega
        ·injection h with h;omega)),Y.out.le,Y.out.mx⟩
      ·exact r.out
     have r2:=(M.dV (show k<(zs.set k ⟨gV x y.m [],q,d⟩).length by rw[List.length_set];exact G.out.2.1)).2.2.1;have f2:=ao.frozen M (k*9+2);have hkm:(k:Int)<(m:Int):=by omega
     have hfz:(f:Int)<(m:Int):=by omega
     have hf0:(0:Int)≤(f:Int):=by omega
     clear M TM TL hl Z;go_wp2;go_roundw
     case rel=>exact⟨k+1,_,by omega,by go_num,HN⟩
     case measure=>simp[RowKit.intOf];omega
   ·rw[decide_eq_false V]at ek
    have HN:Hid (TI w w4 W6 A.heap.size w3.heap.size g B (some ⟨b1,o1,none⟩) n c (xs.map MP.m) S T (k+1) (zs.set k ⟨gV x y.m [],q,d⟩)):=by
     obtain⟨L,R,t,I,U⟩:=G.out
     refine Qh (D.out.step L Jv.out (D.out.bel.trans (Jv.out.below D.out.bel.size (fun b hb=>by
      rcases hb with hb|hb
      ·rw[hb];exact I.1
      ·injection hb with hb;rw[hb];exact I.2.1))) I U JD.out ?_ ?_ Y.out r.out)
     ·rw[Ai L (by rw[t,vy.out];exact V)]
      exact nB.out
     ·rw[mG.out,if_neg V]
    clear V;go_wp2;go_roundw
    case rel=>exact⟨k+1,_,by omega,by go_num,HN⟩
    case measure=>simp[RowKit.intOf];omega
  ·have nj:¬((k:Int)<(m:Int)):=by omega
   have P:Hid (zs.map NP.m=mC (xs.map MP.m) S∧aY wr (some ⟨A.heap.size,0,none⟩) (mC (xs.map MP.m) S).length zs∧(mC (xs.map MP.m) S).length=m):=Qh (by
    have hl:=D.out.len;have hkm:k=T.length:=by rw[ME.out];omega
    have e:zs.map NP.m=mC (xs.map MP.m) S:=by
     rw[ZH.out];apply List.ext_getElem
     ·rw[Qi,Qi,hl]
     ·intro i h1 N
      rw[Qi]at h1 N;have:=D.out.done i (by omega);rw[List.getD,Qd h1,List.getD,Qd N]at this
      simpa using this
    have hlen:(mC (xs.map MP.m) S).length=m:=by rw[ZH.out,Qi,ME.out]
    refine⟨e,?_,hlen⟩;have:=D.out.row.nodes (fun x H=>(D.out.zt x H).1);rw[hl,ME.out]at this
    rw[hlen];exact this)
   go_wp2;go_ret;refine⟨some ⟨A.heap.size,0,none⟩,m,zs,by rw[P.out.2.2];rfl,P.out.1,P.out.2.1,by rw[P.out.2.2];exact Qk _,by unfold maxLen;omega,D.out.bel,fun x H=>?_,fun y hy x H=>?_⟩
   ·cases H
    exact bL.out.size
   ·exact Nat.le_trans nz.out.size ((D.out.zt y hy).2 x H)
end Tre
namespace ni
open Mk Mem Tre
variable {m:aq}
theorem OH {g n:Nat} (h:w'.ownsRow B 48 8 (.slice (some ⟨g,0,none⟩) n n) n (madeCells #[.string ⟨#[]⟩,.string ⟨#[]⟩,.int .u8 0,.int .i64 0,.int .i64 0,.int .i64 0,.int .i64 0,.slice none 0 0] (n*8)).toList):Rm w' g (List.replicate n bC):=by
 rcases h.2 with⟨h1,_⟩|⟨g',cap,cur,h1,_,hg,h2,h3,h4,h5⟩
 ·cases h1
 ·cases h1
  refine⟨cur,hg,by rw[List.length_replicate];omega,fun i hi j D=>?_⟩;rw[List.length_replicate]at hi
  have e:(List.replicate n bC).getD i bC=bC:=by
   rw[List.getD,List.getElem?_replicate,if_pos hi];rfl
  have A:cur.toList[8*i+j]? =(madeCells #[Value.string ⟨#[]⟩,.string ⟨#[]⟩,.int .u8 0,.int .i64 0,.int .i64 0,.int .i64 0,.int .i64 0,.slice none 0 0] (n*8)).toList[8*i+j]? :=by
   rw[←h5,List.getElem?_take,if_pos (by omega)]
  rw[e,←Array.getElem?_toList,A,Array.getElem?_toList];unfold madeCells;rw[Array.getElem?_map,Array.getElem?_range,if_pos (by omega)];simp only[Option.map_some];rw[show(8*i+j) % (#[Value.string ⟨#[]⟩,.string ⟨#[]⟩,.int .u8 0,.int .i64 0,.int .i64 0,.int .i64 0,.int .i64 0,.slice none 0 0]:Array Value).size=j by show(8*i+j) % 8=j;omega]
  match j,D with
  |0,_=>rfl
  |1,_=>rfl
  |2,_=>rfl
  |3,_=>rfl
  |4,_=>rfl
  |5,_=>rfl
  |6,_=>rfl
  |7,_=>rfl
theorem yH {g:Nat} {ys:List MP} (h:Rm W g ys) {k j:Nat} (hk:k<ys.length) (hj:j<8) (u:Value) (y:MP) (hy:∀i,i<8→y.cs[i]? =if i=j then some u else(ys.getD k bC).cs[i]?):Rm (W.setCell ⟨g,k*8+j,none⟩ u) g (ys.set k y):=by
 obtain⟨cur,D,hs,hc⟩:=h;refine⟨cur.setIfInBounds (k*8+j) u,bN D _ u,by rw[List.length_set];simpa using hs,fun i hi l hl=>?_⟩;rw[List.length_set]at hi;rw[mL ys k i y hk,Array.getElem?_setIfInBounds]
 by_cases B:i=k
 ·subst B
  rw[if_pos rfl,hy l hl]
  by_cases A:l=j
  ·subst A
   rw[if_pos (by omega),if_pos (by omega),if_pos rfl]
  ·rw[if_neg (by omega),if_neg A,hc i hi l hl]
 ·rw[if_neg B,if_neg (by omega),hc i hi l hl]
theorem OG {g:Nat} {ys:List MP} {k:Nat} (h:Rm W g (ys.set k ⟨m,p,c⟩)) (hk:k<ys.length) (l:List UInt8):
 Rm ((W.setCell ⟨g,k*8+2,none⟩ (.int .u8 49)).setCell ⟨g,k*8+1,none⟩ (.string (str l))) g (ys.set k ⟨{m with kind:=49,target:=l},p,c⟩):=by
 have B:k<(ys.set k ⟨m,p,c⟩).length:=by rw[List.length_set];exact hk
 have h1:=yH h B (j:=2) (by omega) (.int .u8 49) ⟨{m with kind:=49},p,c⟩ (fun i hi=>by
  rw[mL ys k k _ hk,if_pos rfl]
  match i,hi with
  |0,_=>rfl
  |1,_=>rfl
  |2,_=>rfl
  |3,_=>rfl
  |4,_=>rfl
  |5,_=>rfl
  |6,_=>rfl
  |7,_=>rfl)
 rw[List.set_set]at h1
 have A:=yH h1 (k:=k) (j:=1) (by rw[List.length_set];exact hk) (by omega) (.string (str l)) ⟨{m with kind:=49,target:=l},p,c⟩ (fun i hi=>by
  rw[mL ys k k _ hk,if_pos rfl]
  match i,hi with
  |0,_=>rfl
  |1,_=>rfl
  |2,_=>rfl
  |3,_=>rfl
  |4,_=>rfl
  |5,_=>rfl
  |6,_=>rfl
  |7,_=>rfl)
 rw[List.set_set]at A;exact A
theorem LZ {g:Nat} {ys:List MP} {k:Nat} (h:Rm W g (ys.set k ⟨m,p,c⟩)) (hk:k<ys.length) (b:List UInt8) (q:Option Addr) (d:Nat):
 Rm (W.setCell ⟨g,k*8+7,none⟩ (.slice q b.length d)) g (ys.set k ⟨{m with body:=b},q,d⟩):=by
 have A:k<(ys.set k ⟨m,p,c⟩).length:=by rw[List.length_set];exact hk
 have h1:=yH h A (j:=7) (by omega) (.slice q b.length d) ⟨{m with body:=b},q,d⟩ (fun i hi=>by
  rw[mL ys k k _ hk,if_pos rfl]
  match i,hi with
  |0,_=>rfl
  |1,_=>rfl
  |2,_=>rfl
  |3,_=>rfl
  |4,_=>rfl
  |5,_=>rfl
  |6,_=>rfl
  |7,_=>rfl)
 rw[List.set_set]at h1;exact h1
theorem J4 (w:World) (m:aq) (h:m.body=[]):cV w ⟨m,none,0⟩:=by
 refine⟨?_,?_,Nat.zero_le _⟩
 ·show cD w none m.body.length m.body
  rw[h];exact cD.none_ w none
 ·show m.body.length≤0
  rw[h];exact Qk _
structure zb (w w2 w4 wr:World) (M g:Nat) (t:List ay) (os:List (List UInt8)) (n k:Nat) (ys:List MP):Prop where
 bel:Below w2.heap.size w2 wr
 kp:w4.heap.size≤wr.heap.size
 map:cH im wr M (fz (cw t os k))
 row:Rm wr g ys
 len:ys.length=n
 done:∀i,i<k→(ys.getD i bC).m=cC t os i
 zt:∀y∈ys,cV wr y∧∀a,y.p=some a→w4.heap.size≤a.block
section
variable {w w2 w4 wr W':World} {M g n k:Nat} {t:List ay} {os:List (List UInt8)} {ys:List MP}
theorem zb.step (h:zb w w2 w4 wr M g t os n k ys) (hk:k<n) (vY:Kept (qf g (some M)) wr W') (hg:w2.heap.size≤g∧g<w4.heap.size∧w2.heap.size≤M∧M<w4.heap.size)
 {y:MP} (cJ:Rm W' g (ys.set k y)) (uQ:cH im W' M (fz (cw t os (k+1)))) (hy:y.m=cC t os k) (rp:cV W' y) (Rz:∀a,y.p=some a→w4.heap.size≤a.block):
 zb w w2 w4 W' M g t os n (k+1) (ys.set k y):=by
 have E:k<ys.length:=by rw[h.len];exact hk
 refine⟨h.bel.trans (vY.below h.bel.size (fun b hb=>?_)),Nat.le_trans h.kp vY.size,uQ,cJ,by rw[List.length_set];exact h.len,fun j G=>?_,fun x A=>?_⟩
 ·rcases hb with hb|hb
  ·rw[hb];exact hg.1
  ·injection hb with hb;rw[hb];exact hg.2.2.1
 ·rw[mL ys k j y E]
  by_cases h1:j=k
  ·rw[if_pos h1,h1];exact hy
  ·rw[if_neg h1];exact h.done j (by omega)
 ·rcases List.mem_or_eq_of_mem_set A with A|rfl
  ·obtain⟨h1,B⟩:=h.zt x A
   refine⟨h1.kept vY (fun _ a D e=>?_),B⟩;have:=B a D;rcases e with e|e
   ·omega
   ·injection e with e;omega
  ·exact⟨rp,Rz⟩
end
theorem Ll {t:List ay} {os:List (List UInt8)} (hg:bG t=true) (ho:cz t os):RJ t os=(dH t os,0):=by
 unfold RJ;rw[if_pos ((tJ hg os).2 ho)]
theorem U0 {t:List ay} {os:List (List UInt8)} (hg:bG t=true) (ho:¬cz t os):RJ t os=([],1):=by
 unfold RJ;rw[if_neg (fun h=>ho ((tJ hg os).1 h))]
theorem yp (w:World) (p:Option Addr) (n c:Nat) (xs:List NP) (a:Option Addr) (m d:Nat) (os:List (List UInt8)) (hN:oh w p n c xs) (hO:Et w a m d os):
 Calls Tryz.prog 21 #[.slice p n c,.slice a m d] w (og w (RJ (xs.map NP.m) os)):=by
 obtain⟨i0,hi,fV,fb,fg⟩:=info_parts E7;have HI:=Qh hi;have lu:=Qh fV;have j5:=Qh fb;have lx:=Qh fg;have yU:=@run_makeMap Tryz.prog;have Vs:=Qh (zZ w p n c xs a m d os hN hO);have Ue:=hN.few;have HG:=Qh hN.QI;have HO:=Qh hO.at_;have O1:=Qh hN.room;have HXA:=Qh hN.at_.2.1;obtain⟨t,ht⟩:∃t,xs.map NP.m=t:=⟨_,rfl⟩
 have HT:=Qh ht;unfold Eo at Vs;rw[ht]at Vs HG⊢;clear hi fV fb fg hN hO ht
 go_enter Tryz.func21,Tryz.ntmps21
 go_wp2_with fail
 refine Vs.out.mono ?_;rintro e A (⟨q,zs,rfl,htk,hzl,hol,ru,KS,g⟩|⟨rfl,uR,g⟩)
 ·have WQ:=Qh htk
  have Sk:=Qh hzl;have MD:=Qh hol;have mG:=Qh ru;have P6:=Qh KS;have bL:=Qh g;clear htk hzl hol ru KS g Vs
  go_wp2_with (at_make;refine wpList_make_full _ rfl _ _ 38 rfl A.heap.size 48 i0 _ 8 Tryz.underlying38 HI.out lu.out j5.out .i64 .i64 _ _ n rfl rfl rfl rfl (by rw[lx.out];omega) (by unfold maxLen;omega) (Qk _) ?_)
  intro w3 lR bw;have MU:Rm w3 A.heap.size (List.replicate n bC):=OH (B:=A.heap.size) lR;have dv:Kept ag A w3:=(Kept.refl ag A).grown bw (fun k h=>by cases h);have o:Below A.heap.size A w3:=dv.below (Qk _) (fun _ h=>h.elim)
  have Yp:A.heap.size<w3.heap.size:=by
   obtain⟨cur,hc,_⟩:=MU;exact hc.lt
  obtain⟨w4,ry⟩:∃w4,w3.alloc (.map #[] 0)=w4:=⟨_,rfl⟩
  have fw:Below w3.heap.size w3 w4:=by rw[←ry];exact(Below.refl _ _).alloc (Qk _) _
  have NY:cH im w4 w3.heap.size (fun _=>none):=by rw[←ry];exact iU im w3
  have N4:w4.heap.size=w3.heap.size+1:=by rw[←ry];simp
  have S8:Hid (zb w A w4 w4 w3.heap.size A.heap.size t os n 0 (List.replicate n bC)):=Qh
   {bel:=o.trans (fw.mono o.size)
    kp:=Qk _
    map:=by
     have e:fz (cw t os 0)=fun _=>none:=by funext l;rfl
     rw[e];exact NY
    row:=tZ MU fw
    len:=by simp
    done:=fun i hi=>by omega
    zt:=fun y hy=>by
     rw[(List.mem_replicate.1 hy).2]
     exact⟨J4 _ PN rfl,fun a h=>by cases h⟩}
  have H:Hid (A.heap.size≤A.heap.size∧A.heap.size<w4.heap.size∧A.heap.size≤w3.heap.size∧w3.heap.size<w4.heap.size):=Qh ⟨Qk _,by omega,by omega,by omega⟩;obtain⟨M,hM⟩:∃M,w3.heap.size=M:=⟨_,rfl⟩
  rw[hM]at S8 H;clear lR bw MU dv o fw NY N4 Yp;go_upto_region 6 with fail;clear ry yU hM;go_wp2_with fail
  go_loopw [10,11,12,13,28] (fun _ _ _ _ i wr=>∃(k:Nat) (ys:List MP),k≤n∧i=.int .i64 (k:Int)∧Hid (zb w A w4 wr M A.heap.size t os n k ys)) (fun _ _ _ _ i _=>n - (RowKit.intOf i).toNat)
  case atStart=>exact⟨0,_,Nat.zero_le _,rfl,S8⟩
  case round=>
   obtain⟨k,ys,hk,rfl,G⟩:=hrel
   by_cases R:k<n
   ·have oJ:k<ys.length:=by rw[G.out.len];exact R
    obtain⟨b1,o1,rfl,cg,mN,hc⟩:=(mG.out.below G.out.bel).dV R;have dR:=qd WQ.out R;obtain⟨v,hv⟩:∃v,zs.getD k aH=v:=⟨_,rfl⟩
    rw[hv]at mN hc dR;have jz:v∈xs:=List.mem_of_find?_eq_some dR
    have hnd:nodeAt t (os.getD k [])=v.m:=by
     unfold nodeAt;rw[←HT.out,←pN,dR];rfl
    have uF:=eO HG.out (x:=v.m) (by rw[←HT.out];exact List.mem_map.2 ⟨v,jz,rfl⟩);have Pw:=O1.out v jz;have HXB:=Qh (HXA.out v jz);obtain⟨c0,c1,c2,c3,c4,c5,c6,c7,c8⟩:=hc;obtain⟨W5,nN⟩:∃W5,wr.alloc (.cells v.cs 52)=W5:=⟨_,rfl⟩
    have uC:Below wr.heap.size wr W5:=by rw[←nN];exact(Below.refl _ _).alloc (Qk _) _
    have I:ao W5 wr.heap.size 52 v.cs:=by rw[←nN];exact ao.new wr _ _
    have Z6:=G.out.map.kept (Kept.aR uC ag) (fun h=>h.elim);have VQ:=tZ G.out.row uC;have r:A.heap.size<wr.heap.size:=by have h1:=H.out.2.1;have N:=G.out.kp;omega
    have HGW:=Qh r;unfold NP.cs fX at nN;have ek:=th v.m.kind 48 48 rfl;obtain⟨kn,bT⟩:∃kn:Int,(v.m.kind.toNat:Int)=kn:=⟨_,rfl⟩
    have fW:=Qh bT;have z0:=I.cell 0;have z1:=I.cell 1;have z3:=I.cell 3;have z4:=I.cell 4;have z5:=I.cell 5;have z6:=I.cell 6;have z7:=I.cell 7;simp only[NP.cs,fX,Qc,Qa,Qb]at z0 z1 z3 z4 z5 z6 z7;rw[bT]at nN c3 z3 ek;obtain⟨r0,r1,r2,r3,r4,r5,r6,r7⟩:=VQ.eo oJ
    have D:∀i,W5.frozen? ⟨A.heap.size,i,none⟩=false:=fun i=>by
     obtain⟨cur,hc,_⟩:=VQ;exact hc.frozen i
    have f0:=D (k*8);have f1:=D (k*8+1);have f2:=D (k*8+2);have f3:=D (k*8+3);have f4:=D (k*8+4);have f5:=D (k*8+5);have f6:=D (k*8+6);have f7:=D (k*8+7);have xt:=Qh uC;have HBN:=Qh I;have iP:=Qh Z6;have BH:=Qh VQ;have J:=Qh hnd;have Vq:=Qh uF;have P8:=Qh Pw;have qk:=Qh mN;have Z:=Qh oJ;have kh:(k:Int)<(n:Int):=by omega
    clear oJ cg mN dR hv jz hnd uF Pw uC I Z6 VQ r bT D;go_upto_region 9 with fail;clear nN c0 c1 c2 c3 c4 c5 c6 c7 c8;go_upto_region 10 with fail;obtain⟨W6,EL⟩:∃W6,((((((((W5.setCell ⟨A.heap.size,k*8,none⟩ (.string (str v.m.path))).setCell ⟨A.heap.size,k*8+1,none⟩ (.string (str v.m.target))).setCell ⟨A.heap.size,k*8+2,none⟩ (.int .u8 kn)).setCell ⟨A.heap.size,k*8+3,none⟩ (.int .i64 v.m.mode)).setCell ⟨A.heap.size,k*8+4,none⟩ (.int .i64 v.m.uid)).setCell ⟨A.heap.size,k*8+5,none⟩ (.int .i64 v.m.gid)).setCell ⟨A.heap.size,k*8+6,none⟩ (.int .i64 v.m.time)).setCell ⟨A.heap.size,k*8+7,none⟩ (.slice none 0 0))=W6:=⟨_,rfl⟩
    obtain⟨mv,Yu⟩:∃mv:aq,(⟨v.m.path,v.m.target,v.m.kind,v.m.mode,v.m.uid,v.m.gid,v.m.time,[]⟩:aq)=mv:=⟨_,rfl⟩
    have YC:OA W5 A.heap.size (k*8) ⟨mv,none,0⟩=W6:=by
     rw[←EL,←Yu,←fW.out];rfl
    have Pt:Rm W6 A.heap.size (ys.set k ⟨mv,none,0⟩):=by rw[←YC];exact BH.out.set Z.out ⟨mv,none,0⟩
    have NT:Kept (aA A.heap.size) W5 W6:=by rw[←YC];exact Iw (S:=aA A.heap.size) rfl _
    have Q9:A.heap.size≠M:=by
     obtain⟨cur,hc,_⟩:=BH.out;exact lJ hc iP.out
    have EV:Kept (qf A.heap.size (some M)) wr W6:=(Kept.aR xt.out _).trans (NT.mono (fun b h=>.inl h));have V3:ao W6 wr.heap.size 52 v.cs:=HBN.out.bZ NT (fun e=>by have h1:=HGW.out;have N:wr.heap.size=A.heap.size:=e;omega);have Pk:cH im W6 M (fz (cw t os k)):=iP.out.kept NT (fun e=>Q9 (show M=A.heap.size from e).symm);have Vv:=Qh Yu;have X:=Qh Pt;have Na:=Qh EV;have Wy:=Qh V3;have nB:=Qh Pk;have PZ:=Qh Q9;have y2:W6.cell? ⟨wr.heap.size,2,none⟩=some (.string (str v.m.af)):=V3.cell 2;have y3:W6.cell? ⟨wr.heap.size,3,none⟩=some (.int .u8 kn):=by rw[←fW.out];exact V3.cell 3
    rw[EL];clear EL YC Pt NT EV V3 Pk Q9 Yu r0 r1 r2 r3 r4 r5 r6 r7 f0 f1 f2 f3 f4 f5 f6 f7 z0 z1 z3 z4 z5 z6 z7;have ZY:mv.body=[]:=by rw[←Vv.out]
    have Zm:=Qh ZY;clear ZY
    by_cases L:v.m.kind=48
    ·rw[decide_eq_true L,Bool.not_true]at ek
     have R8:Hid ((nodeAt t (os.getD k [])).kind=48):=Qh (by rw[J.out];exact L);have U:=nB.out.look_ok (P:=Tryz.prog) Tryz.underlying99 Tryz.underlying9 (z:=.int .i64 0) (fun w=>Tryz.zeroValue3 w) v.m.af;obtain⟨fo,uO⟩:∃fo,cw t os k v.m.af=fo:=⟨_,rfl⟩
     have xw:Hid (cw t os k (nodeAt t (os.getD k [])).af=fo):=Qh (by rw[J.out];exact uO);unfold fz at U;rw[uO]at U;clear L uO
     cases fo with
     |some f=>
      have RH:(Instr.lookup 99 (.map (some M)) (.string (str v.m.af)) true).run Tryz.prog W6=.ok (.tuple #[.int .i64 (f:Int),.bool true]) W6:=U;have hfk:f<k:=zG xw.out;have Pn:m=n:=by rw[←HO.out.1,MD.out]
      have TZ:Below A.heap.size A W6:=G.out.bel.trans (Na.out.below G.out.bel.size (fun b hb=>by
       rcases hb with hb|hb
       ·rw[hb];exact Qk _
       ·injection hb with hb;rw[hb];exact H.out.2.2.1))
      obtain⟨b3,o3,rfl,o,vT⟩:=((HO.out.below bL.out).below TZ).2 (by omega);have q0:=vT f (by omega);obtain⟨s,hs⟩:∃s,os.getD f []=s:=⟨_,rfl⟩
      rw[hs]at q0;have HS:=Qh hs;have Y:k<(ys.set k ⟨mv,none,0⟩).length:=by rw[List.length_set];exact Z.out
      obtain⟨r0,r1,r2,r3,r4,r5,r6,r7⟩:=X.out.eo Y
      have D:∀i,W6.frozen? ⟨A.heap.size,i,none⟩=false:=fun i=>by
       obtain⟨cur,hc,_⟩:=X.out;exact hc.frozen i
      have f1:=D (k*8+1);have f2:=D (k*8+2);have ab2:(0:Int)≤(f:Int):=by omega
      have ab3:(f:Int)<(m:Int):=by omega
      clear U hfk Pn TZ o vT hs Y D r0 r3 r4 r5 r6 r7;go_upto_region 16 with fail;obtain⟨W7,Jk⟩:∃W7,(W6.setCell ⟨A.heap.size,k*8+2,none⟩ (.int .u8 49)).setCell ⟨A.heap.size,k*8+1,none⟩ (.string (str s))=W7:=⟨_,rfl⟩
      have V:Rm W7 A.heap.size (ys.set k ⟨{mv with kind:=49,target:=s},none,0⟩):=by rw[←Jk];exact OG X.out Z.out s
      have O:Kept (aA A.heap.size) W6 W7:=by rw[←Jk];exact((Kept.refl (aA A.heap.size) W6).setCell (a:=⟨A.heap.size,k*8+2,none⟩) (.inr rfl) _).setCell (a:=⟨A.heap.size,k*8+1,none⟩) (.inr rfl) _
      have W:Hid (zb w A w4 W7 M A.heap.size t os n (k+1) (ys.set k ⟨{mv with kind:=49,target:=s},none,0⟩)):=Qh
       (G.out.step R (Na.out.trans (O.mono (fun b h=>.inl h))) H.out V (by
        rw[GO xw.out]
        exact nB.out.kept O (fun e=>PZ.out (show M=A.heap.size from e).symm))
        (by rw[Oi R8.out xw.out,J.out,HS.out,←Vv.out];rfl) (J4 _ _ Zm.out) (fun a h=>by cases h))
      rw[Jk];clear Jk V O r1 r2 f1 f2;go_wp2;go_roundw
      case rel=>exact⟨k+1,_,by omega,by go_num,W⟩
      case measure=>simp[RowKit.intOf];omega
     |none=>
      have RH:(Instr.lookup 99 (.map (some M)) (.string (str v.m.af)) true).run Tryz.prog W6=.ok (.tuple #[.int .i64 0,.bool false]) W6:=U;clear U
      go_wp2_with (at_mapUpdate;refine cR (K:=im) rfl (.tmp 68) (.tmp 70) (.tmp 71) rfl Tryz.underlying99 Tryz.underlying9 M nB.out rfl v.m.af rfl (.int .i64 (k:Int)) rfl ?_)
      intro w7 rO O Rr
      have Pm:cH im w7 M (fz (cw t os (k+1))):=by
       have e:fz (cw t os (k+1))=fun z=>if z=v.m.af then some (.int .i64 (k:Int))else fz (cw t os k) z:=by
        funext z
        unfold fz;rw[GN R8.out xw.out,J.out]
        by_cases h:z=v.m.af<;>simp[h]
       rw[e];exact rO.out
      have Rh:Kept (qf A.heap.size (some M)) wr w7:=Na.out.trans (O.out.mono (fun b h=>.inr (by rw[show b=M from h])))
      have T0:Below A.heap.size A w7:=G.out.bel.trans (Rh.below G.out.bel.size (fun b hb=>by
       rcases hb with hb|hb
       ·rw[hb];exact Qk _
       ·injection hb with hb;rw[hb];exact H.out.2.2.1))
      have u:ao w7 wr.heap.size 52 v.cs:=Wy.out.bZ O.out (fun e=>by have h1:=H.out.2.2.2;have N:wr.heap.size=M:=e;have T:=G.out.kp;omega)
      have V:Rm w7 A.heap.size (ys.set k ⟨mv,none,0⟩):=by
       obtain⟨cur,hc,N,T⟩:=X.out;exact⟨cur,hc.bZ O.out PZ.out,N,T⟩
      have Pf:=kb v.p v.m.body.length v.c v.m.body w7 ((HXB.out.below bL.out).below T0).ib rfl P8.out.2.2.2;have y8:w7.cell? ⟨wr.heap.size,8,none⟩=some (.slice v.p v.m.body.length v.c):=u.cell 8;have S7:=Qh Pm;have S5:=Qh Rh;have JE:=Qh V;have M4:=Qh Pf;clear rO O Rr Pm Rh T0 u V Pf y2 y3 RH;go_wp2_with fail;refine M4.out.mono ?_;rintro e w8 ⟨q8,d8,rfl,hle,E0,pQ,CR,VY⟩;have V8:=tZ JE.out VY;have Y:k<(ys.set k ⟨mv,none,0⟩).length:=by rw[List.length_set];exact Z.out
      obtain⟨r0,r1,r2,r3,r4,r5,r6,r7⟩:=V8.eo Y
      have f7:w8.frozen? ⟨A.heap.size,k*8+7,none⟩=false:=by
       obtain⟨cur,hc,_⟩:=V8;exact hc.frozen _
      have YN:=S5.out.size
      have YE:∀x,q8=some x→w4.heap.size≤x.block:=fun x hx=>by
       have h1:=CR x hx;have N:=G.out.kp;omega
      have W:Hid (zb w A w4 (w8.setCell ⟨A.heap.size,k*8+7,none⟩ (.slice q8 v.m.body.length d8)) M A.heap.size t os n (k+1) (ys.set k ⟨{mv with body:=v.m.body},q8,d8⟩)):=by
       have nj:Kept (aA A.heap.size) w8 (w8.setCell ⟨A.heap.size,k*8+7,none⟩ (.slice q8 v.m.body.length d8)):=(Kept.refl (aA A.heap.size) w8).setCell (a:=⟨A.heap.size,k*8+7,none⟩) (.inr rfl) _
       refine Qh (G.out.step R ((S5.out.trans (Kept.aR VY _)).trans (nj.mono (fun b h=>.inl h))) H.out (LZ V8 Z.out v.m.body q8 d8)
        ((S7.out.kept (Kept.aR VY ag) (fun h=>h.elim)).kept nj (fun e=>PZ.out (show M=A.heap.size from e).symm))
        (by rw[Oh R8.out xw.out,J.out,←Vv.out];rfl) ⟨pQ.kept nj (fun _ x hx e=>?_),hle,E0⟩ YE)
       have h1:=YE x hx;have N:=H.out.2.1;have T:x.block=A.heap.size:=e;omega
      clear hle E0 pQ CR VY V8 Y YN YE r0 r1 r2 r3 r4 r5 r6;go_wp2;go_roundw
      case rel=>exact⟨k+1,_,by omega,by go_num,W⟩
      case measure=>simp[RowKit.intOf];omega
    ·rw[decide_eq_false L,Bool.not_false]at ek
     have W:Hid (zb w A w4 W6 M A.heap.size t os n (k+1) (ys.set k ⟨mv,none,0⟩)):=Qh
      (G.out.step R Na.out H.out X.out (by rw[zH (by rw[J.out];exact L)];exact nB.out)
       (by
        rw[Ib (by rw[J.out];exact L),J.out,←Vv.out];unfold ay.mem
        rw[Ce Vq.out.2.1 L]) (J4 _ _ Zm.out) (fun a h=>by cases h))
     clear L;go_wp2;go_roundw
     case rel=>exact⟨k+1,_,by omega,by go_num,W⟩
     case measure=>simp[RowKit.intOf];omega
   ·obtain rfl:k=n:=by omega
    have nj:¬((k:Int)<(k:Int)):=by omega
    have F:Hid (og w (dH t os,0) (.returned (.tuple #[.slice (some ⟨A.heap.size,0,none⟩) k k,.int .i64 0])) wr):=Qh (by
     have hl:(dH t os).length=k:=by rw[kR P6.out,MD.out]
     have hm:ys.map MP.m=dH t os:=by
      apply List.ext_getElem
      ·rw[Qi,G.out.len,hl]
      ·intro i h1 N
       rw[Qi]at h1;have T:=G.out.done i (by rw[←G.out.len];exact h1);have h4:=eI P6.out (show i<os.length by rw[MD.out,←G.out.len];exact h1);rw[NJ h1]at T;rw[List.getElem_map,T,←h4,List.getD,Qd N];rfl
     have yU:=G.out.row.YX (fun y hy=>(G.out.zt y hy).1);rw[G.out.len]at yU
     refine⟨some ⟨A.heap.size,0,none⟩,k,ys,by rw[hl],hm,by rw[hl];exact yU,by rw[hl];exact Qk _,by unfold maxLen;omega,bL.out.trans (G.out.bel.mono bL.out.size)⟩)
    have E:Hid (RJ t os=(dH t os,0)):=Qh (Ll HG.out P6.out);go_wp2;go_ret2;rw[E.out];exact F.out
 ·have E:Hid (RJ t os=([],1)):=Qh (U0 HG.out uR)
  have HB:=Qh g;clear uR g;go_wp2;go_ret2;unfold og;rw[E.out];exact⟨none,0,[],rfl,rfl,oX _ _,Qk _,by decide,HB.out⟩
end ni
namespace Tre
open Mk Mem
def rZ (w:World) (ms:List aq) (e:Ending) (w':World):Prop:=
 ∃q d zs,e=.returned (.tuple #[.slice q (gR ms).1.length d,.agg #[.int .i64 (gR ms).2.1,.int .i64 ((gR ms).2.2:Int)]])∧zs.map NP.m=(gR ms).1∧aY w' q (gR ms).1.length zs∧(gR ms).1.length≤d∧d≤maxLen∧Below w.heap.size w w'∧(∀x,q=some x→w.heap.size≤x.block)∧(∀y∈zs,∀x,y.p=some x→w.heap.size≤x.block)
theorem vR {ms:List aq} {e i:Int} {k:Nat} (h:gR ms=([],e,k)) (hb:Below w.heap.size w w') (hi:i=(k:Int)):rZ w ms (.returned (.tuple #[.slice none 0 0,.agg #[.int .i64 e,.int .i64 i]])) w':=
 ⟨none,0,[],by rw[h,hi];rfl,by rw[h];rfl,by rw[h];exact pY _ _,by rw[h];exact Qk _,by decide,hb,(fun x A=>by cases A),(fun y hy=>by cases hy)⟩
theorem I3 (p:Option Addr) (n c:Nat) (xs:List MP) (w:World) (hM:cN w p n xs) (hn:n≤1000000) (hF:OW xs) (hR:∀x∈xs,x.m.body.length≤140737488351232) (hT:Path.Tabs w):
 Calls Tryz.prog 26 #[.slice p n c] w (rZ w (xs.map MP.m)):=by
 obtain⟨W,hW⟩:∃W,w.alloc (.cells #[.int .i64 0,.int .i64 0] 32)=W:=⟨_,rfl⟩
 have f:Below w.heap.size w W:=by rw[←hW];exact(Below.refl _ _).alloc (Qk _) _
 have TT:ao W w.heap.size 32 #[.int .i64 0,.int .i64 0]:=by rw[←hW];exact ao.new w _ _
 have Wq:=Qh (pR p n c xs W (hM.below f) (by omega) hF (hT.below f));have HM:=Qh hM;have J:=Qh hM.1;have HF:=Qh hF;have HR:=Qh hR;have ir:=Qh f;have nZ:=Qh TT;obtain⟨bo,XQ⟩:∃bo,jB (xs.map MP.m)=bo:=⟨_,rfl⟩
 rw[XQ]at Wq;have Wk:=Qh XQ;clear hM hF hR hT f TT XQ
 go_enter Tryz.func26,Tryz.ntmps26
 go_upto_region 1 with fail
 clear hW;go_wp2_with fail;refine Wq.out.mono ?_;rintro e w1 ⟨rfl,cg⟩;have b8:=Qh (ir.out.trans (cg.mono ir.out.size));have H:=nZ.out.below cg nZ.out.lt;have Y:=Qh H;have x0:=H.cell 0;have G:=H.cell 1;have f0:=H.frozen 0;have f1:=H.frozen 1;simp only[Qc,Qa,Qb]at x0 G;clear cg H Wq
 cases bo with
 |some i=>
  have MN:(0:Int)≤(i:Int):=by omega
  simp only[RE];go_wp2;refine bodyPost_ret (tX rfl _ _ w.heap.size _ rfl rfl 1 (i:Int) (ow Y.out _ _)) rfl ?_;exact vR (GX Wk.out) ((b8.out.setCell (p:=⟨w.heap.size,0,none⟩) (Qk _) _).setCell (p:=⟨w.heap.size,1,none⟩) (Qk _) _) rfl
 |none=>
  simp only[RE];clear x0 G f0 f1;have Ta:=Qh (Dr p n c w1);go_wp2_with fail;refine Ta.out.mono ?_;rintro e w2 ⟨g,B,rfl,hL,hg,hB,bY⟩;have bL:=Qh (b8.out.trans (bY.mono b8.out.size));have fC:=Qh (Y.out.below bY Y.out.lt);have Sb:=Qh (And.intro hg hB);have Ej:=Qh hL;have z:Hid (w.heap.size<w1.heap.size):=Qh Y.out.lt;clear hL hg hB bY Ta;go_wp2_with fail
  go_loopw [6,17] (fun _ i wr=>∃(k:Nat) (S:St),k≤n∧i=.int .i64 (k:Int)∧Hid (eH (xs.map MP.m) k=.ok S)∧Hid (lA wr g B p n c (look S))∧Hid (Below w.heap.size w wr)∧Hid (ao wr w.heap.size 32 #[.int .i64 0,.int .i64 0])) (fun _ i _=>n - (RowKit.intOf i).toNat)
  case atStart=>exact⟨0,[],Nat.zero_le _,rfl,Qh rfl,Qh Ej.out,bL,fC⟩
  case round=>
   obtain⟨k,S,hk,rfl,hS,Z4,D,R⟩:=hrel
   by_cases ax:k<n
   ·have kg:k<(xs.map MP.m).length:=by rw[Qi,J.out];exact ax
    have hIn:=tk (xs.map MP.m) k S (by omega) hS.out;rw[Qi,J.out]at hIn;have N:=Qh (yh w g B p n c xs S k wr HM.out D.out (by have:=Sb.out.2;have:=z.out;omega) (by omega) ax hIn Z4.out);have kh:(k:Int)<(n:Int):=by omega
    have fW:Hid ((xs.map MP.m).length=k+1+(n - (k+1))):=Qh (by rw[Qi,J.out];omega);unfold Er at N;obtain⟨lo,u⟩:∃lo,jY (xs.map MP.m) S k=lo:=⟨_,rfl⟩
    rw[u]at N;have MA:=Qh u;clear kg hIn u;go_wp2_with fail;refine N.out.mono ?_;rintro e w3 ⟨rfl,Z3,dv⟩;have cX:w.heap.size≠B:=by have:=Sb.out.2;have:=z.out;omega
    have MH:Below w.heap.size w w3:=D.out.trans (dv.below D.out.size (fun b V=>by rw[show b=B from V];have:=Sb.out.2;have:=z.out;omega));have A:=R.out.bZ dv (show ¬aA B w.heap.size from cX);have U:=Qh MH;have Z:=Qh A;have r:=Qh Z3;have x0:=A.cell 0;have G:=A.cell 1;have f0:=A.frozen 0;have f1:=A.frozen 1;simp only[Qc,Qa,Qb]at x0 G;clear Z3 dv cX MH A N
    cases lo with
    |none=>
     have E:=Qh (Cx Wk.out (by rw[fW.out];exact tn (Db hS.out MA.out) _));go_wp2;refine bodyPost_ret (tX rfl _ _ w.heap.size _ rfl rfl 7 (k:Int) (ow Z.out _ _)) rfl ?_;exact vR E.out ((U.out.setCell (p:=⟨w.heap.size,0,none⟩) (Qk _) _).setCell (p:=⟨w.heap.size,1,none⟩) (Qk _) _) rfl
    |some S'=>
     have P9:=Qh (tq hS.out MA.out);clear x0 G f0 f1;go_wp2;go_roundw
     case rel=>exact⟨k+1,S',by omega,by go_num,P9,r,U,Z⟩
     case measure=>simp[RowKit.intOf];omega
   ·have nj:¬((k:Int)<(n:Int)):=by omega
    have bT:k=n:=by omega
    have l:(xs.map MP.m).length=n:=by rw[Qi,J.out]
    have XG:eH (xs.map MP.m) (xs.map MP.m).length=.ok S:=by rw[l,←bT];exact hS.out
    have xW:=Af _ _ _ hS.out;have E:=Qh (zJ Wk.out XG)
    have t:=Qh (Mn g B p n c xs S wr (HM.out.below D.out) (by omega) Z4.out (qK _ _ _ hS.out) (by have:=tk _ _ S (Qk _) XG;rwa [l]at this) (Nat.le_trans xW.len (by omega)) (fun e he=>by
     obtain⟨j,hj,e2⟩:=xW.from_ e he;rw[e2,eb];have:=(HF.out _ (lN xs j (by rw[J.out];omega))).1;unfold maxLen
     omega) HR.out)
    clear bT l XG xW;go_wp2_with fail;refine t.out.mono ?_;rintro e w3 ⟨q,d,zs,rfl,X,I,hd,O,fq,L,hy⟩;have U:=Qh (D.out.trans (fq.mono D.out.size));have A:=R.out.below fq R.out.lt;have Z:=Qh A;have gj:=Qh (And.intro D.out.size R.out.lt);have P:=Qh (And.intro X (And.intro I (And.intro hd (And.intro O (And.intro L hy)))));have x0:=A.cell 0;have G:=A.cell 1;have f0:=A.frozen 0;have f1:=A.frozen 1;simp only[Qc,Qa,Qb]at x0 G;clear X I hd O fq L hy A;go_wp2;refine bodyPost_ret (tX rfl _ _ w.heap.size _ rfl rfl 0 0 (ow Z.out _ _)) rfl ?_;have hbf:=(U.out.setCell (p:=⟨w.heap.size,0,none⟩) (Qk _) (.int .i64 0)).setCell (p:=⟨w.heap.size,1,none⟩) (Qk _) (.int .i64 0);have Yj:Kept (aA w.heap.size) w3 ((w3.setCell ⟨w.heap.size,0,none⟩ (.int .i64 0)).setCell ⟨w.heap.size,1,none⟩ (.int .i64 0)):=((Kept.refl (aA w.heap.size) w3).setCell (a:=⟨w.heap.size,0,none⟩) (.inr rfl) _).setCell (a:=⟨w.heap.size,1,none⟩) (.inr rfl) _;obtain⟨X,I,hd,O,L,hy⟩:=P.out;obtain⟨ng,rP⟩:=gj.out;refine⟨q,d,zs,by rw[E.out];rfl,by rw[E.out];exact X,?_,by rw[E.out];exact hd,O,hbf,fun x M=>Nat.le_trans ng (L x M),fun y T x M=>Nat.le_trans ng (hy y T x M)⟩;rw[E.out];refine⟨I.1,fun y T=>(I.2.1 y T).kept Yj (fun _ x M h=>by have h1:=hy y T x M;have h2:x.block=w.heap.size:=h;omega),fun h0=>?_⟩;obtain⟨b,o,V,jy,hc⟩:=I.2.2 h0;refine⟨b,o,V,Nat.lt_of_lt_of_le jy Yj.size,fun i hi j hj=>?_⟩;rw[World.cell?_of_block (Yj.block b jy (fun h=>by have h1:=L _ V;have h2:b=w.heap.size:=h;simp only at h1;omega))];exact hc i hi j hj
end Tre
namespace Bl
open Rec Mem Tre ni Wr
attribute [local irreducible] wpQuiet
theorem OI {g:Nat} (h:w'.ownsRow B 9 1 (.slice (some ⟨g,0,none⟩) n n) n (madeCells #[.string ⟨#[]⟩] n).toList):Rs w' g (List.replicate n []):=by
 rcases h.2 with⟨h1,_⟩|⟨g',cap,cur,h1,_,hg,h2,h3,h4,h5⟩
 ·cases h1
 ·cases h1
  refine⟨cur,hg,by rw[List.length_replicate];omega,fun i hi=>?_⟩;rw[List.length_replicate]at hi
  have A:cur.toList[i]? =(madeCells #[Value.string ⟨#[]⟩] n).toList[i]? :=by
   rw[←h5,List.getElem?_take,if_pos (by omega)]
  rw[←Array.getElem?_toList,A,toList_madeCells_one,List.getElem?_replicate,if_pos (by omega),List.getD,List.getElem?_replicate,if_pos hi];rfl
theorem FA {fn:Func} (hf:fn.results=#[.tmp 4,.cell 5 32]) (tmps:Array Value) (w:World) (g:Nat) (v:Value) (ht:tmps.getD 5 undef=.pointer (some ⟨g,0,none⟩)) (hv:tmps.getD 4 undef=v)
 (a b:Int) (hb:ao w g 32 #[.int .i64 a,.int .i64 b]):(results fn tmps).run Tryz.prog w=.ok (.tuple #[v,.agg #[.int .i64 a,.int .i64 b]]) w:=by
 have c0:=hb.cell 0;have c1:=hb.cell 1;simp only[Qc,Qa,Qb]at c0 c1;clear hb;have hl:(loadVar 32 ⟨g,0,none⟩).run Tryz.prog w=.ok (.agg #[.int .i64 a,.int .i64 b]) w:=by go_simp
 have B:tmps[5]?.getD undef=.pointer (some ⟨g,0,none⟩):=by simpa using ht
 have A:tmps[4]?.getD undef=v:=by simpa using hv
 simp only[results,hf];simp[Result.andThen,B,A,asAddr,hl]
theorem Cr (w:World) (p:Option Addr) (n c:Nat) (xs:List NP) (hM:aY w p n xs) (hn:n≤4096):
 Calls Tryz.prog 22 #[.slice p n c] w fun e w'=>∃g,e=.returned (.slice (some ⟨g,0,none⟩) n n)∧Rs w' g (fR (xs.map NP.m))∧Below w.heap.size w w':=by
 obtain⟨i0,hi,d,f,l⟩:=info_parts Oa;have HI:=Qh hi;have lu:=Qh d;have j5:=Qh f;have lx:=Qh l;have HM:=Qh hM;have M:=Qh hM.1;clear hi d f l hM
 go_enter Tryz.func22,Tryz.ntmps22
 go_wp2_with (at_make;refine wpList_make_full _ rfl _ _ 55 rfl w.heap.size 9 i0 _ 1 Tryz.underlying55 HI.out lu.out j5.out .i64 .i64 _ _ n rfl rfl rfl rfl (by rw[lx.out];omega) (by unfold maxLen;omega) (Qk _) ?_)
 intro w2 r Z;have E:=OI (B:=w.heap.size) r;have b:Kept ag w w2:=(Kept.refl ag w).grown Z (fun k h=>by cases h);have Y:Below w.heap.size w w2:=b.below (Qk _) (fun _ h=>h.elim);have X:=Qh Y;have z:=Qh E;obtain⟨gg,R⟩:∃gg,w.heap.size=gg:=⟨_,rfl⟩
 have T:=Qh R;rw[R]at z X⊢;clear r Z E b Y R;go_wp2_with fail
 go_loopw [4,5,11] (fun _ _ i wr=>∃(k:Nat) (A:List (List UInt8)),k≤n∧i=.int .i64 (k:Int)∧Hid (A.length=n)∧Hid (∀j,j<k→A.getD j []=(xs.getD j aH).m.path)∧Hid (Rs wr gg A)∧Hid (Below gg w wr)) (fun _ _ i _=>n - (RowKit.intOf i).toNat)
 case atStart=>exact⟨0,_,Nat.zero_le _,rfl,Qh (by simp),Qh (fun j h=>by omega),z,X⟩
 case round=>
  obtain⟨k,A,hk,rfl,G,D,E,H⟩:=hrel
  by_cases W:k<n
  ·obtain⟨b1,o1,rfl,cg,mN,hc⟩:=(HM.out.below (by rw[T.out];exact H.out)).dV W
   obtain⟨y,hy⟩:∃y,xs.getD k aH=y:=⟨_,rfl⟩
   rw[hy]at hc;have HY:=Qh hy;obtain⟨c0,c1,c2,c3,c4,c5,c6,c7,c8⟩:=hc;obtain⟨W5,J⟩:∃W5,wr.alloc (.cells y.cs 52)=W5:=⟨_,rfl⟩
   have V:Below wr.heap.size wr W5:=by rw[←J];exact(Below.refl _ _).alloc (Qk _) _
   have u:ao W5 wr.heap.size 52 y.cs:=by rw[←J];exact ao.new wr _ _
   have O:=L5 E.out V;have I:k<A.length:=by rw[G.out];exact W
   obtain⟨r0,f0⟩:=O.at I;have z0:=u.cell 0;unfold NP.cs fX at J;simp only[NP.cs,fX,Qc,Qa]at z0;have Wx:Hid (Rs (W5.setCell ⟨gg,k,none⟩ (.string (str y.m.path))) gg (A.set k y.m.path)):=Qh (O.set I y.m.path);have xt:Hid (Below gg w (W5.setCell ⟨gg,k,none⟩ (.string (str y.m.path)))):=Qh ((H.out.trans (V.mono (by rw[←T.out];exact H.out.size))).setCell (p:=⟨gg,k,none⟩) (Qk _) _)
   have L:Hid (∀j,j<k+1→(A.set k y.m.path).getD j []=(xs.getD j aH).m.path):=Qh (fun j hj=>by
    rw[EI A k j _ I]
    by_cases N:j=k
    ·rw[if_pos N,N,HY.out]
    ·rw[if_neg N];exact D.out j (by omega))
   have kh:(k:Int)<(n:Int):=by omega
   clear hy cg mN V u O I;go_upto_region 5 with fail;clear J c0 c1 c2 c3 c4 c5 c6 c7 c8;go_wp2;go_roundw
   case rel=>exact⟨k+1,_,by omega,by go_num,Qh (by rw[List.length_set];exact G.out),L,Wx,xt⟩
   case measure=>simp[RowKit.intOf];omega
  ·obtain rfl:k=n:=by omega
   have nj:¬((k:Int)<(k:Int)):=by omega
   have tc:A=fR (xs.map NP.m):=by
    apply List.ext_getElem
    ·rw[G.out,jo,Qi,M.out]
    ·intro i h1 h2
     have U:i<k:=by rw[←G.out];exact h1
     have o:=D.out i U;have q:=tO (t:=xs.map NP.m) (i:=i) (by rw[Qi,M.out];exact U);rw[List.getD,Qd h1,Option.getD_some]at o;rw[List.getD,Qd h2,Option.getD_some]at q;rw[o,q,List.getElem_map,rM (by rw[M.out];exact U)]
   go_wp2;go_ret;exact⟨gg,rfl,by rw[←tc];exact E.out,by rw[T.out];exact H.out⟩
theorem GF (w:World) (p:Option Addr) (n c:Nat) (xs:List NP) (hR:sg w p n c xs) (hN:Need w):
 Calls Tryz.prog 10 #[.slice p n c] w (lB w (xs.map NP.m)):=by
 have T:=Qh hR.at_;have R:=Qh hR.at_.1;have HC:=Qh (And.intro hR.nc hR.cm);have W:=Qh hR.room;have z:=Qh hN;have M:=I4 p n c xs w hR.at_ hR.nc hR.cm (fun x B=>⟨(hR.room x B).1,(hR.room x B).2.1⟩) hN.yL;obtain⟨g,I⟩:∃g,bG (xs.map NP.m)=g:=⟨_,rfl⟩
 rw[I]at M;have A:=Qh I;have Y:=Qh M;clear hR hN M I
 go_enter Tryz.func10,Tryz.ntmps10
 go_wp2_with fail
 refine Y.out.mono ?_;rintro e w1 ⟨rfl,d⟩;have E:=Qh d;clear d Y
 cases g with
 |false=>
  go_wp2;go_ret2;exact .inr ⟨A.out,none,0,rfl,E.out⟩
 |true=>
  have hn:n≤4096:=by
   have:=Kq A.out
   rwa [Qi,R.out]at this
  have o:=Cr w1 p n c xs (T.out.below E.out) hn;have U:=Qh o;clear o;go_wp2_with fail;refine U.out.mono ?_;rintro e w2 ⟨gg,rfl,q,b⟩;have Z:=Qh (E.out.trans (b.mono E.out.size));have J:=q.strs;rw[jo,Qi,R.out]at J
  have hm:=yp w2 p n c xs (some ⟨gg,0,none⟩) n n (fR (xs.map NP.m)) ⟨T.out.below Z.out,HC.out.1,HC.out.2,by omega,W.out,A.out⟩ ⟨J,Qk _,by unfold maxLen;omega,by omega,fun s hs=>by
   obtain⟨x,B,rfl⟩:=List.mem_map.1 hs;obtain⟨y,hy,rfl⟩:=List.mem_map.1 B
   exact(W.out y hy).1⟩
  rw[Ll A.out (eJ _)]at hm;unfold og at hm;have X:=Qh hm;have f:=Z;clear hm J q b U;go_wp2_with fail;refine X.out.mono ?_;rintro e w4 ⟨q4,d4,ys,rfl,H,D,X2,Q2,l⟩;have L:=Qh (f.out.trans (l.mono f.out.size));have V:(dH (xs.map NP.m) (fR (xs.map NP.m))).length≤4096:=fP A.out;have G:=I9 q4 (dH (xs.map NP.m) (fR (xs.map NP.m))).length d4 ys w4 D V (fun x B=>ei A.out x.m (by unfold dI;rw[←H];exact List.mem_map_of_mem B)) (z.out.below L.out);rw[H]at G;unfold vx at G;have O:=Qh G;clear H D X2 Q2 l V G X;go_wp2_with fail;refine O.out.mono ?_;rintro e w5 ⟨v,rfl,u,t⟩;obtain⟨p5,c5,rfl,hle,N,r,_,_⟩:=u.slice;have F:=Qh (And.intro hle (And.intro N (And.intro r (L.out.trans (t.mono L.out.size)))));clear u hle N r t O;go_wp2;go_ret2;exact .inl ⟨A.out,p5,c5,rfl,F.out.1,F.out.2.1,F.out.2.2.1,F.out.2.2.2⟩
theorem yv {bs:List UInt8}:∀m∈(cG bs).1,m.path.length≤200∧m.target.length≤200∧m.body.length≤1048576:=fun m hm=>by
 obtain⟨⟨ms,e,a⟩,h⟩:∃x,cG bs=x:=⟨_,rfl⟩
 rw[h]at hm;rcases tC h with⟨_,h2,_⟩|⟨_,_,h2⟩
 ·simp only[h2]at hm;cases hm
 ·have A:=eF (h2 m hm)
  exact⟨A.tN,A.xk,A.body⟩
theorem Kf (w:World) (p:Option Addr) (n c:Nat) (bs:List UInt8) (q:Option Addr) (m d:Nat) (zs:List Int) (hb:cD w p n bs) (hl:bs.length=n) (hn:n≤140737488351232) (hq:FL w q m zs) (hz:zs.length=m) (hm:m*8≤140737488351232) (hN:Need w):
 Calls Tryz.prog 13 #[.slice p n c,.slice q m d] w (xA w bs):=by
 obtain⟨W,hW⟩:∃W,w.alloc (.cells #[.int .i64 0,.int .i64 0] 32)=W:=⟨_,rfl⟩
 have N:Below w.heap.size w W:=by rw[←hW];exact(Below.refl _ _).alloc (Qk _) _
 have TT:ao W w.heap.size 32 #[.int .i64 0,.int .i64 0]:=by rw[←hW];exact ao.new w _ _
 have L:=qM W p n c bs q m d zs (hb.below N) hl hn (hq.kept (Kept.aR N ag) (fun _ _ _ h=>h.elim)) hz hm (hN.below N);unfold JM at L;have b:=Qh (yv (bs:=bs));have FJ:=Qh (uY bs);obtain⟨⟨ms,A,a⟩,hD⟩:∃x,cG bs=x:=⟨_,rfl⟩
 have ZJ:Hid ((A≠0→jQ bs=([],A,a))∧(A=0→jQ bs=gR ms)):=Qh (by
  unfold jQ;rw[hD]
  exact⟨fun h=>if_neg h,fun h=>if_pos h⟩)
 rw[hD]at L b FJ;obtain⟨t,o⟩:∃z:Int,((a:Nat):Int)=z:=⟨_,rfl⟩
 rw[o]at L;have Z:=Qh o;have HR:=Qh L;have HN:=Qh hN;have ir:=Qh N;have nZ:=Qh TT;clear hb hl hn hq hz hm hN N TT L hD o
 go_enter Tryz.func13,Tryz.ntmps13
 go_upto_region 1 with fail
 clear hW;go_wp2_with fail;refine HR.out.mono ?_;rintro e O ⟨q1,c1,xs,rfl,gS,T8,K3,M,u⟩;obtain⟨w2,R⟩:∃w2,O.alloc (.cells #[.int .i64 A,.int .i64 t] 32)=w2:=⟨_,rfl⟩
 have l:Below O.heap.size O w2:=by rw[←R];exact(Below.refl _ _).alloc (Qk _) _
 have Y:ao w2 O.heap.size 32 #[.int .i64 A,.int .i64 t]:=by rw[←R];exact ao.new O _ _
 have g:=u.trans (l.mono u.size);have U:=Qh (ir.out.trans (g.mono ir.out.size));have I:=Qh (And.intro K3 (And.intro (M.below l) (And.intro gS T8)));have G:=nZ.out.below g nZ.out.lt;have nY:=Qh G;have e0:=Y.cell 0;have e1:=Y.cell 1;have V:=G.cell 0;have X:=G.cell 1;have f0:=G.frozen 0;have f1:=G.frozen 1;simp only[Qc,Qa,Qb]at e0 e1 V X;clear gS T8 K3 M u l Y g G HR
 by_cases he:A=0
 ·have H:=Qh (ZJ.out.2 he)
  subst he;go_upto_region 2 with fail;clear R;clear e1 V X f0 f1
  have hf:=I3 q1 xs.length c1 xs w2 I.out.2.1 (by have:=FJ.out;rw[←Qi (f:=MP.m),I.out.1];omega) (fun x hx=>by
   have:=b.out x.m (by rw[←I.out.1];exact List.mem_map_of_mem hx)
   exact⟨by omega,by omega⟩) (fun x hx=>by
   have:=b.out x.m (by rw[←I.out.1];exact List.mem_map_of_mem hx)
   omega) (HN.out.below U.out).yL
  unfold rZ at hf;rw[I.out.1]at hf;obtain⟨⟨T,E,k⟩,hT⟩:∃x,gR ms=x:=⟨_,rfl⟩
  rw[hT]at hf;have HT:=Qh hT;obtain⟨kz,oJ⟩:∃z:Int,((k:Nat):Int)=z:=⟨_,rfl⟩
  rw[oJ]at hf;have P2:=Qh oJ;have HF:=Qh hf;clear hf hT oJ;go_wp2_with fail;refine HF.out.mono ?_;rintro e w3 ⟨q3,d3,us,rfl,r,lq,J,Uc,y,_,_⟩;have SQ:us.length=T.length:=by rw[←r,Qi]
  have eW:=Qh (U.out.trans (y.mono U.out.size));have D:=nY.out.below y nY.out.lt;have Vx:=Qh D;have B:=Qh (And.intro r (And.intro lq (And.intro J (And.intro Uc SQ))));have V:=D.cell 0;have X:=D.cell 1;have f0:=D.frozen 0;have f1:=D.frozen 1;simp only[Qc,Qa,Qb]at V X;clear r lq J Uc y D e0 HF SQ;go_wp2;refine bodyPost_ret (FA rfl _ _ w.heap.size _ rfl rfl E kz (ow Vx.out _ _)) rfl ?_;refine⟨q3,d3,us,by rw[H.out,HT.out,B.out.2.2.2.2,←P2.out];rfl,by rw[H.out,HT.out];exact B.out.1,?_,by rw[B.out.2.2.2.2];exact B.out.2.2.1,B.out.2.2.2.1,(eW.out.setCell (p:=⟨w.heap.size,0,none⟩) (Qk _) _).setCell (p:=⟨w.heap.size,1,none⟩) (Qk _) _⟩;have hk:Kept (aA w.heap.size) w3 ((w3.setCell ⟨w.heap.size,0,none⟩ (.int .i64 E)).setCell ⟨w.heap.size,1,none⟩ (.int .i64 kz)):=((Kept.refl (aA w.heap.size) w3).setCell (a:=⟨w.heap.size,0,none⟩) (.inr rfl) _).setCell (a:=⟨w.heap.size,1,none⟩) (.inr rfl) _;have hn:=B.out.2.1;rw[←B.out.2.2.2.2]at hn;exact Ih Vx.out hn hk
 ·have H:=Qh (ZJ.out.1 he)
  have cX:(A != 0)=true:=by simpa using he
  clear he;go_upto_region 3 with fail;clear R
  go_still_tail 2,(by kernel_rfl)
  go_wp2;refine bodyPost_ret (FA rfl _ _ w.heap.size _ rfl rfl A t (ow (nY.out.drew) _ _)) rfl ?_;refine⟨none,0,[],by rw[H.out,←Z.out];rfl,by rw[H.out];rfl,pY _ _,Qk _,by unfold maxLen;omega,((below_drewN U.out 1).setCell (p:=⟨w.heap.size,0,none⟩) (Qk _) _).setCell (p:=⟨w.heap.size,1,none⟩) (Qk _) _⟩
theorem GH (w:World) (p:Option Addr) (n c:Nat) (xs:List MP) (hM:vC w p n c xs):
 Calls Tryz.prog 19 #[.slice p n c] w fun e w'=>e=.returned (.bool (eR (xs.map MP.m)))∧Below w.heap.size w w':=by
 have R:=Qh hM.at_;have I:=Qh hM.at_.1;obtain⟨r,O⟩:∃r,eR (xs.map MP.m)=r:=⟨_,rfl⟩
 have T:=Qh O;have u:=hM.few;rw[O];clear hM O
 go_enter Tryz.func19,Tryz.ntmps19
 go_wp2_with fail
 go_loopw [3] (fun i wr=>∃(k:Nat),1≤k∧(k≤n∨k=1)∧i=.int .i64 (k:Int)∧Hid (ny (xs.map MP.m) k=true)∧Hid (Below w.heap.size w wr)) (fun i _=>n+1 - (RowKit.intOf i).toNat)
 case atStart=>exact⟨1,Qk _,.inr rfl,rfl,Qh (xa _),Qh (Below.refl _ _)⟩
 case round=>
  obtain⟨k,dP,hk,rfl,X,A⟩:=hrel
  by_cases V:k<n
  ·obtain⟨b,o,rfl,f,l,hc⟩:=(R.out.below A.out).eo V
   obtain⟨z,o',he,_,_,G⟩:=(R.out.below A.out).eo (show k - 1<n by omega)
   cases he
   have N:=eb xs k;have H:=eb xs (k - 1);obtain⟨x,Y⟩:∃x,xs.getD k bC=x:=⟨_,rfl⟩
   obtain⟨y,hy⟩:∃y,xs.getD (k - 1) bC=y:=⟨_,rfl⟩
   rw[Y]at hc N;rw[hy]at G H;obtain⟨m,hm⟩:∃m,k - 1=m:=⟨_,rfl⟩
   rw[hm]at G H;have hS:=tY (xs.map MP.m) k (by omega);rw[X.out,Bool.true_and,hm,N,H]at hS;have J:Hid (∀p:ga wr,Calls Tryz.prog 45 #[.string (str y.m.path),.string (str x.m.path)] p.w' fun e w'=>e=.returned (.bool (dx y.m.path x.m.path))∧p.w'=w'):=Qh (fun p=>Path.oP y.m.path x.m.path p.w');obtain⟨L,W⟩:∃L,dx y.m.path x.m.path=L:=⟨_,rfl⟩
   rw[W]at J hS;have U:=Qh hS;have Z:=uc hc.1;have d:=uc G.1;have q1:IntKind.i64.wrap ((k:Int) - 1)=(m:Int):=by rw[IntKind.wrap_i64];omega
   have kh:(k:Int)<(n:Int):=by omega
   have g:(m:Int)<(n:Int):=by omega
   have q:Hid (k<(xs.map MP.m).length):=Qh (by rw[Qi,I.out];exact V);clear hc G f l N H Y hy W hm hS
   cases L with
   |true=>
    go_upto_region 4 with fail
    refine aL (by kernel_rfl) (by kernel_rfl) ?_
    repeat (quiet_step (first|(go_at_call 45;exact Calls.kY (J.out _))))
    refine wpQuiet_nil ?_;intro t B;have D:=cd B;clear B Z d;have M:=Qh (A.out.trans (D.mono A.out.size));clear D;go_wp2;go_roundw
    case rel=>exact⟨k+1,by omega,by omega,by go_num,U,M⟩
    case measure=>simp[RowKit.intOf];omega
   |false=>
    have E:Hid (r=false):=Qh (by
     rw[←T.out]
     cases h:eR (xs.map MP.m)with
     |false=>rfl
     |true=>
      have h1:=LY h (k+1) (by have:=q.out;omega);rw[U.out]at h1
      cases h1)
    go_upto_region 4 with fail
    refine aL (by kernel_rfl) (by kernel_rfl) ?_
    repeat (quiet_step (first|(go_at_call 45;exact Calls.kY (J.out _))))
    refine wpQuiet_nil ?_;intro t B;have D:=cd B;clear B Z d;have M:=Qh (A.out.trans (D.mono A.out.size));clear D;go_wp2;go_ret;exact⟨by rw[E.out];rfl,M.out⟩
  ·have nj:¬((k:Int)<(n:Int)):=by omega
   have E:Hid (r=true):=Qh (by
    rw[←T.out];rcases Nat.eq_zero_or_pos n with h0|h0
    ·have:xs=[]:=List.eq_nil_of_length_eq_zero (by rw[I.out,h0])
     rw[this];rfl
    ·rw[←wZ,Qi,I.out,show n=k by omega]
     exact X.out)
   go_wp2;go_ret;exact⟨by rw[E.out];rfl,A.out⟩
theorem emitC:EmitC where
 pack w p n c xs hR hN:=GF w p n c xs hR hN
 unpack w p n c bs q m d zs h1 h2 h3 h4 h5 h6 hN:=Kf w p n c bs q m d zs h1 h2 h3 h4 h5 h6 hN
 sorted w p n c xs hM _:=GH w p n c xs hM
end Bl
namespace Tre
open Mem
def hA:aq:=⟨[97],[98],49,0,0,0,0,[]⟩
def nA:ay:=⟨[97],[],[97],48,0,0,0,0,[120]⟩
theorem TC:bG [bU]=false:=by decide+kernel
theorem U1 {y:MP} (hb:ao w b 48 y.cs) (hB:cV w y):cN w (some ⟨b,0,none⟩) 1 [y]:=by
 refine⟨rfl,fun x A=>by rw[List.mem_singleton]at A;subst A;exact hB,fun _=>⟨b,0,rfl,hb.lt,fun i hi j B=>?_⟩⟩;obtain rfl:i=0:=by omega
 rw[show 0+8*0+j=j by omega];exact hb.cell j
theorem wG {y:NP} (hb:ao w b 52 y.cs) (hB:cU w y):aY w (some ⟨b,0,none⟩) 1 [y]:=by
 refine⟨rfl,fun x A=>by rw[List.mem_singleton]at A;subst A;exact hB,fun _=>⟨b,0,rfl,hb.lt,fun i hi j B=>?_⟩⟩;obtain rfl:i=0:=by omega
 rw[show 0+9*0+j=j by omega];exact hb.cell j
theorem Gs (w:World) (m:ay) (h:m.body=[]):cU w ⟨m,none,0⟩:=by
 refine⟨?_,?_,?_⟩
 ·show cD w none m.body.length m.body
  rw[h];exact fun A=>absurd A (by decide)
 ·show m.body.length≤0
  rw[h];exact Qk _
 ·show(0:Nat)≤_
  decide
end Tre
namespace Bl
open Rec Mem Tre ni
theorem O8:bG [nA]=true:=by decide+kernel
theorem Lr:dI [nA]=[nA.mem]:=by decide+kernel
theorem wL:(jK [nA]).length=2048:=by
 have A:dd nA.mem:=eF (by decide+kernel);have h:=DI A (by decide+kernel);unfold jK;rw[Lr,lH,Qf,List.length_replicate,fS,Qf,h];decide
theorem Gp (H:EmitC) (w:World) (hN:Need w):Calls Tryz.prog 9 #[] w fun e w'=>e=.returned (.bool true)∧Below w.heap.size w w':=by
 have kc:(convert 26 26 (.slice (some ⟨w.heap.size,0,none⟩) 1 1)).run Tryz.prog (w.alloc (.cells #[.int .u8 120] 5))=.ok (.slice (some ⟨w.heap.size,0,none⟩) 1 1) (w.alloc (.cells #[.int .u8 120] 5 (1,2))):=
  Lib.run_convert_bytes_const (P:=Tryz.prog) w 26 5 #[.int .u8 120] 1 1 Tryz.underlying26 Tryz.underlying5
 obtain⟨W1,D⟩:∃W1,(w.alloc (.cells #[.int .u8 120] 5 (1,2))).alloc (.cells #[.string ⟨#[97]⟩,.string ⟨#[]⟩,.string ⟨#[97]⟩,.int .u8 48,.int .i64 0,.int .i64 0,.int .i64 0,.int .i64 0,.slice (some ⟨w.heap.size,0,none⟩) 1 1] 52)=W1:=⟨_,rfl⟩
 have V:Below w.heap.size w W1:=by rw[←D];exact((Below.refl _ w).alloc (Qk _) _).alloc (by simp) _
 have cg:ao W1 (w.heap.size+1) 52 (NP.cs ⟨nA,some ⟨w.heap.size,0,none⟩,1⟩):=by
  have:=ao.new (w.alloc (.cells #[.int .u8 120] 5 (1,2))) 52 (NP.cs ⟨nA,some ⟨w.heap.size,0,none⟩,1⟩);rw[World.size_alloc]at this;rw[←D];exact this
 have I:cD W1 (some ⟨w.heap.size,0,none⟩) 1 [120]:=fun _=>⟨w.heap.size,0,rfl,fun i hi=>by
  obtain rfl:i=0:=by omega
  rw[←D]
  have:(w.alloc (.cells #[.int .u8 120] 5 (1,2))).cell? ⟨w.heap.size,0,none⟩=some (.int .u8 120):=by
   unfold World.cell?;rw[heap_alloc_new];rfl
  exact(((Below.refl (w.heap.size+1) (w.alloc (.cells #[.int .u8 120] 5 (1,2)))).alloc (by simp) _).cell (p:=⟨w.heap.size,0,none⟩) (by show w.heap.size<w.heap.size+1;omega)).trans this⟩
 have B:=H.pack W1 (some ⟨w.heap.size+1,0,none⟩) 1 1 [⟨nA,some ⟨w.heap.size,0,none⟩,1⟩] ⟨wG cg ⟨I,by show(1:Nat)≤1;decide,by show(1:Nat)≤maxLen;decide⟩,Qk _,by decide,fun x A=>by
  rw[List.mem_singleton.1 A];exact⟨by show(1:Nat)≤_;decide,by show(0:Nat)≤_;decide,by show(1:Nat)≤_;decide,by show(1:Nat)≤_;decide⟩⟩ (hN.below V)
 rw[show([⟨nA,some ⟨w.heap.size,0,none⟩,1⟩]:List NP).map NP.m=[nA]from rfl]at B;unfold lB at B;rw[wL]at B;have c:=Qh B;have HC:=Qh H;have l:=Qh D;have z:=Qh V;have R:=Qh hN;clear D V cg I B H hN
 go_enter Tryz.func9,Tryz.ntmps9
 go_wp2_with fail
 rw[l.out];refine c.out.mono ?_;rintro e w2 (⟨_,p2,c2,rfl,Sz,X1,q,bY⟩|⟨hf,_⟩)
 rotate_left
 ·exact absurd O8 (by rw[hf];decide)
 have U:=Qh (z.out.trans (bY.mono z.out.size));have hu:=HC.out.unpack w2 p2 2048 c2 (jK [nA]) none 0 0 [] q wL (by decide) (zY w2) rfl (by decide) (R.out.below U.out);unfold xA at hu;rw[Bf O8]at hu;have f:=Qh hu;clear Sz X1 q bY hu c l kc;go_wp2_with fail;refine f.out.mono ?_;rintro e w3 ⟨q3,d3,zs,rfl,N,g,_,_,fq⟩;have eW:=Qh (U.out.trans (fq.mono U.out.size))
 have r:zs.length=1:=by
  have:=congrArg List.length N
  simpa using this
 obtain⟨z0,rfl⟩:=List.length_eq_one_iff.1 r;clear r;simp only[List.map_cons,List.map_nil,List.cons.injEq,and_true]at N;obtain⟨m0,p0,c0⟩:=z0;simp only at N;subst N;obtain⟨b,o,rfl,jy,hB,k0⟩:=g.dV (i:=0) (by simp);have J:eV w3 b o ⟨nA,p0,c0⟩:=by simpa using k0
 obtain⟨W4,L⟩:∃W4,(w3.alloc (.cells #[.int .i64 0,.int .i64 0] 32)).alloc (.cells #[.string ⟨#[]⟩,.string ⟨#[]⟩,.string ⟨#[]⟩,.int .u8 0,.int .i64 0,.int .i64 0,.int .i64 0,.int .i64 0,.slice none 0 0] 52)=W4:=⟨_,rfl⟩
 have T:Below w3.heap.size w3 W4:=by rw[←L];exact((Below.refl _ _).alloc (Qk _) _).alloc (by simp) _
 have E:ao W4 w3.heap.size 32 #[.int .i64 0,.int .i64 0]:=by
  have A:=ao.new w3 32 #[.int .i64 0,.int .i64 0];rw[←L];exact A.below ((Below.refl _ _).alloc (Qk _) _) A.lt
 have G:ao W4 (w3.heap.size+1) 52 (NP.cs aH):=by
  have:=ao.new (w3.alloc (.cells #[.int .i64 0,.int .i64 0] 32)) 52 (NP.cs aH);rw[World.size_alloc]at this;rw[←L];exact this
 have W:=Qh (eW.out.trans (T.mono eW.out.size))
 have M:=HC.out.pack W4 (some ⟨w3.heap.size+1,0,none⟩) 1 1 [aH] ⟨wG G (Gs W4 bU rfl),Qk _,by decide,fun x A=>by
  rw[List.mem_singleton.1 A];exact⟨by show(0:Nat)≤_;decide,by show(0:Nat)≤_;decide,by show(0:Nat)≤_;decide,by show(0:Nat)≤_;decide⟩⟩ (R.out.below W.out)
 rw[show([aH]:List NP).map NP.m=[bU]from rfl]at M;unfold lB at M;have Z:=Qh M;have t:=Qh L;have y:=Qh T;have Y:=Qh E;have d:=Qh (And.intro jy J);clear g jy hB k0 J L T E G M f fq;go_wp2_with fail;rw[t.out];refine Z.out.mono ?_;rintro e w5 (⟨hf,_⟩|⟨_,p5,c5,rfl,O⟩)
 ·exact absurd hf (by rw[TC];decide)
 have u:Below w3.heap.size w3 w5:=y.out.trans (O.mono y.out.size);have f0:=(Y.out.below O Y.out.lt).cell 0;have s0:w5.cell? ⟨b,o+2,none⟩=some (.string ⟨#[97]⟩):=(d.out.2.below d.out.1 u).2.2.1;simp only[Qc,Qa]at f0;have X:=Qh (W.out.trans (O.mono W.out.size));have hs:=HC.out.sorted w5 none 0 0 [] ⟨oX w5 none,Qk _,by decide,by decide,fun x A=>by cases A⟩ (R.out.below X.out);have HS:=Qh hs;clear O u hs Z t;go_wp2_with fail;refine HS.out.mono ?_;rintro e w6 ⟨rfl,vS⟩;have yR:=Qh (X.out.trans (vS.mono X.out.size));clear vS f0 s0;go_wp2;go_ret;exact⟨rfl,yR.out⟩
end Bl
end Go.Proofs.YtdhibldkldlfpaaGreatDoor
section
namespace Go.Proofs.YtdhibldkldlfpaaGreatDoor.Bl
open Go.ChangeShapes Go.WideShapes Go.ChangeAt Go.RowKit Base bM cr Bk Rec Mem Tre ni Go.Lib
set_option linter.unusedVariables false
set_option maxRecDepth 100000
theorem L0 {w:World} {p:Option Addr} {n:Nat} {xs:List NP} (h:aY w p n xs) (hr:∀x∈xs,Sm x.m∧vE x):∀x∈xs,x.m.path.length≤140737488351232∧x.m.target.length≤140737488351232∧x.m.af.length≤140737488351232∧x.m.body.length≤140737488351232:=fun x A=>by
 have h1:=(hr x A).2;have B:=(h.2.1 x A).le;exact⟨h1.1,h1.2.1,h1.2.2.1,by have:=h1.2.2.2;omega⟩
end Go.Proofs.YtdhibldkldlfpaaGreatDoor.Bl
namespace Go.Proofs.YtdhibldkldlfpaaGreatDoor.Walk
open Go.ChangeShapes Go.WideShapes Go.ChangeAt Go.RowKit Base bM cr Bk Rec Block Mem Tre ni Bl Go.Lib
set_option linter.unusedVariables false
set_option maxRecDepth 100000
end Go.Proofs.YtdhibldkldlfpaaGreatDoor.Walk
end
section
namespace Go.Proofs.YtdhibldkldlfpaaGreatDoor.Bl
open Mem Tre ni
theorem OE {ms:List aq} (h:eR ms=true) {k:Nat} (hk:k<ms.length) (h0:k≠0):dx (ms.getD (k - 1) bB).path (ms.getD k bB).path=true:=by
 unfold eR at h;rw[List.all_eq_true]at h;have:=h k (List.mem_range.2 hk);rw[decide_eq_false h0,Bool.false_or]at this;exact this
theorem uf {ms:List aq} (h:ue ms=true) {k:Nat} (hk:k<ms.length):jb ms k k=true:=by
 unfold ue at h;rw[List.all_eq_true]at h;have h1:=h k (List.mem_range.2 hk);unfold yI at h1
 dsimp only at h1
 rw[Bool.and_eq_true,Bool.and_eq_true]at h1;exact h1.2.1
end Go.Proofs.YtdhibldkldlfpaaGreatDoor.Bl
namespace Go.Proofs.YtdhibldkldlfpaaGreatDoor.Walk
open Go.ChangeShapes Go.WideShapes Go.ChangeAt Go.RowKit Base bM cr Bk Rec Block Mem Tre ni Bl Go.Lib
set_option linter.unusedVariables false
set_option maxRecDepth 100000
set_option maxHeartbeats 16000000 in
theorem zC (H:EmitC) (a0:Option Addr) (len0 cap0:Nat) (xs0:List NP) (a1:Option Addr) (len1 cap1:Nat) (xs1:List MP) (w:World) (ma0:aY w a0 len0 xs0) (lc0:len0≤cap0) (cm0:cap0≤maxLen) (by0:cap0*112≤140737488351232) (rm0:∀x∈xs0,Sm x.m∧vE x)
 (ma1:cN w a1 len1 xs1) (lc1:len1≤cap1) (cm1:cap1≤maxLen) (by1:cap1*96≤140737488351232) (rm1:∀x∈xs1,Ty x.m∧ze x) (hN:Need w):
 Calls Tryz.prog 6 #[.slice a0 len0 cap0,.slice a1 len1 cap1] w fun e w'=>e=.returned (.bool true)∧Below w.heap.size w w':=by
 have P8:=Qh (L0 ma0 rm0);have HS:=Qh (Al a0 len0 cap0 xs0 w ma0 lc0 cm0 P8.out);unfold vB at HS;have Vo:Hid (∀D,Below w.heap.size w D→Calls Tryz.prog 9 #[] D fun e w'=>e=.returned (.bool true)∧Below D.heap.size D w'):=Qh fun D h=>Gp H D (hN.below h)
 have HC:=Qh H;have HA0:=Qh ma0;have Wh:=Qh ma1;have HN:=Qh hN;have HL:=Qh ma0.1;have Nc:=Qh ma1.1;have Zu:=Qh (And.intro lc0 cm0);have S6:=Qh (And.intro lc1 cm1)
 have Em:Hid (∀x∈xs1,x.m.path.length≤140737488351232∧x.m.target.length≤140737488351232∧x.m.body.length≤140737488351232):=Qh (fun x I=>by
  have h1:=(rm1 x I).2;have h2:=(ma1.2.1 x I).le
  exact⟨h1.1,h1.2.1,by have:=h1.2.2;omega⟩)
 obtain⟨T,hT⟩:∃T,xs0.map NP.m=T:=⟨_,rfl⟩
 have HT:=Qh hT;have ME:Hid (T.length=len0):=Qh (by rw[←hT,Qi];exact ma0.1);obtain⟨g,hg⟩:∃g,bG T=g:=⟨_,rfl⟩
 have W:=Qh hg
 have HGT:Hid (∀D,Below w.heap.size w D→Calls Tryz.prog 12 #[.slice a0 len0 cap0] D fun e w'=>e=.returned (.bool g)∧Below D.heap.size D w'):=Qh (fun D h=>by
  have:=DT a0 len0 cap0 xs0 D (ma0.below h) lc0 cm0 (fun x I=>⟨(rm0 x I).2.1,(rm0 x I).2.2.1⟩)
  rwa [hT,hg]at this)
 clear ma0 lc0 cm0 by0 rm0 hN H hT hg ma1 lc1 cm1 by1 rm1
 go_enter Tryz.func6,Tryz.ntmps6
 go_wp2_with fail
 refine HS.out.mono ?_;rintro e w2 ⟨s,rfl,hs,bY⟩;have c:=Qh bY;clear HS bY
 cases s with
 |false=>
  clear hs;go_wp2_with fail;refine(Vo.out _ c.out).mono ?_;rintro e w3 ⟨rfl,U⟩;have V:=Qh (c.out.trans (U.mono c.out.size));clear U;go_wp2;go_ret;exact⟨rfl,V.out⟩
 |true=>
  have Bt:=hs rfl;clear hs;go_wp2_with fail;refine(HGT.out _ c.out).mono ?_;rintro e w3 ⟨rfl,U⟩;have E:=Qh (c.out.trans (U.mono c.out.size));clear U
  cases g with
  |false=>
   go_wp2_with fail
   refine(Vo.out _ E.out).mono ?_;rintro e w4 ⟨rfl,G⟩;have V:=Qh (E.out.trans (G.mono E.out.size));clear G;go_wp2;go_ret;exact⟨rfl,V.out⟩
  |true=>
   by_cases aa6:(100:Int)<(len1:Int)
   ·go_wp2_with fail
    refine(Vo.out _ E.out).mono ?_;rintro e w4 ⟨rfl,G⟩;have V:=Qh (E.out.trans (G.mono E.out.size));clear G;go_wp2;go_ret;exact⟨rfl,V.out⟩
   ·have hp:=HC.out.pack w3 a0 len0 cap0 xs0 ⟨HA0.out.below E.out,Zu.out.1,Zu.out.2,P8.out⟩ (HN.out.below E.out)
    rw[HT.out]at hp;unfold lB at hp;have HP:=Qh hp;clear hp;go_wp2_with fail;refine HP.out.mono ?_;rintro e w4 (⟨_,p4,c4,rfl,X2,Q2,T7,G⟩|⟨hf,_⟩)
    rotate_left
    ·exact absurd W.out (by rw[hf];decide)
    have nz:=Qh (E.out.trans (G.mono E.out.size));have kg:=Oy W.out;have Ro:=qM w4 p4 (jK T).length c4 (jK T) none 0 0 [] T7 rfl (by omega) (zY w4) rfl (by decide) (HN.out.below nz.out);unfold JM at Ro;rw[Iz W.out]at Ro;have vA:=Qh Ro;clear X2 Q2 T7 G kg Ro HP;go_wp2_with fail;refine vA.out.mono ?_;rintro e d ⟨q5,c5,ms,rfl,QZ,T9,p,Pn,pw⟩;have MR:ms.length=len0:=by rw[←Qi (f:=MP.m),p,iK,ME.out]
    obtain⟨w6,Hi⟩:∃w6,d.alloc (.cells #[.int .i64 0,.int .i64 0] 32)=w6:=⟨_,rfl⟩
    have Xq:Below d.heap.size d w6:=by rw[←Hi];exact(Below.refl _ _).alloc (Qk _) _
    have ZL:Hid (ao w6 d.heap.size 32 #[.int .i64 0,.int .i64 0]):=Qh (by rw[←Hi];exact ao.new d _ _);have QY:=nz.out.trans (pw.mono nz.out.size);have Z:=Qh (QY.trans (Xq.mono QY.size));have HMS:=Qh p;have Rj:=Pn.below Xq;rw[MR]at Rj QZ;have N:=Qh (And.intro Rj (And.intro QZ T9));rw[MR];have FJ:=Qh MR;have Jf:Hid (eR (ms.map MP.m)=true):=Qh (by rw[p];exact rz W.out);have Vz:Hid (ue (ms.map MP.m)=true):=Qh (by rw[p];exact An W.out (eJ T));clear QZ T9 p Pn pw MR Xq QY Rj vA;have Jg:=Qh Hi;clear Hi;go_upto_region 5 with fail;rw[Jg.out];go_wp2_with fail
    go_loopw [9,10] (fun r i wr=>∃(k:Nat) (R:Bool),1≤k∧(k≤len1∨k=1)∧i=.int .i64 (k:Int)∧r=.bool R∧Hid (ny (xs1.map MP.m) k=R)∧Hid (Below w6.heap.size w6 wr)) (fun _ i _=>len1+1 - (RowKit.intOf i).toNat)
    case atStart=>exact⟨1,true,Qk _,.inr rfl,rfl,rfl,Qh (xa _),Qh (Below.refl _ _)⟩
    case round=>
     obtain⟨k,R,dP,hk,rfl,rfl,hR,A⟩:=hrel
     by_cases O:k<len1
     ·obtain⟨b,o,rfl,hb,mN,hc⟩:=(Wh.out.below (Z.out.trans (A.out.mono Z.out.size))).eo O
      obtain⟨b',o',he,_,_,G3⟩:=(Wh.out.below (Z.out.trans (A.out.mono Z.out.size))).eo (show k - 1<len1 by omega)
      cases he
      have Q8:=eb xs1 k;have J:=eb xs1 (k - 1);obtain⟨x,I⟩:∃x,xs1.getD k bC=x:=⟨_,rfl⟩
      obtain⟨y,hy⟩:∃y,xs1.getD (k - 1) bC=y:=⟨_,rfl⟩
      rw[I]at hc Q8;rw[hy]at G3 J;obtain⟨m,hm⟩:∃m,k - 1=m:=⟨_,rfl⟩
      rw[hm]at G3 J;have c0:=hc.1;have d0:=G3.1;have el:Op.bytesLess (str y.m.path).toList (str x.m.path).toList=dx y.m.path x.m.path:=by rw[av,av];rfl
      obtain⟨L,hL⟩:∃L,dx y.m.path x.m.path=L:=⟨_,rfl⟩
      rw[hL]at el
      have nY:Hid (ny (xs1.map MP.m) (k+1)=(R&&L)):=Qh (by
       rw[tY _ _ (by omega),hR.out,hm,Q8,J,hL])
      have q1:IntKind.i64.wrap ((k:Int) - 1)=(m:Int):=by rw[IntKind.wrap_i64];omega
      have kh:(k:Int)<(len1:Int):=by omega
      have hmz:(m:Int)<(len1:Int):=by omega
      clear hc G3 hb mN Q8 J I hy hL hm
      cases R with
      |true=>
       go_wp2_with fail
       go_quiet (fail)
       go_wp2;go_roundw
       case rel=>exact⟨k+1,L,by omega,by omega,by go_num,rfl,nY,Qh (below_drewN A.out _)⟩
       case measure=>simp[RowKit.intOf];omega
      |false=>
       go_wp2_with fail
       go_quiet (fail)
       go_wp2;go_roundw
       case rel=>exact⟨k+1,false,by omega,by omega,by go_num,rfl,nY,Qh (below_drewN A.out _)⟩
       case measure=>simp[RowKit.intOf];omega
     ·have nj:¬((k:Int)<(len1:Int)):=by omega
      have Tq:Hid (eR (xs1.map MP.m)=R):=Qh (by
       have h1:=Nc.out;rw[←hR.out];rcases Nat.eq_zero_or_pos len1 with h0|h0
       ·have:xs1=[]:=List.eq_nil_of_length_eq_zero (by rw[h1,h0])
        rw[this];have iH:k=1:=by omega
        rw[iH];rfl
       ·have iH:k=(xs1.map MP.m).length:=by rw[Qi,h1];omega
        rw[iH,wZ])
      have HB7:=Qh A.out;obtain⟨w7,rfl⟩:∃x,x=wr:=⟨_,rfl⟩
      clear hR A;go_wp2_with fail
      go_loopw [11,12,13] (fun i _ _ wr=>∃(j:Nat),j≤len0∧i=.int .i64 (j:Int)∧Hid (Below w6.heap.size w6 wr)) (fun i _ _ _=>len0 - (RowKit.intOf i).toNat)
      case atStart=>exact⟨0,Nat.zero_le _,rfl,HB7⟩
      case round=>
       obtain⟨j,hj,rfl,A⟩:=hrel
       by_cases O:j<len0
       ·obtain⟨b2,o2,rfl,bY,ea,jX⟩:=(N.out.1.below A.out).eo O
        have NS:=eb ms j;obtain⟨v,hv⟩:∃v,ms.getD j bC=v:=⟨_,rfl⟩
        rw[hv]at jX NS;have X:=Qh (And.intro hv NS);obtain⟨d0,d1,d2,d3,d4,d5,d6,d7⟩:=jX;have t:=th v.m.kind 49 49 rfl;obtain⟨kn,bT⟩:∃kn:Int,(v.m.kind.toNat:Int)=kn:=⟨_,rfl⟩
        rw[bT]at d2 t;have kh:(j:Int)<(len0:Int):=by omega
        clear bY ea NS hv bT;rcases Nat.eq_zero_or_pos j with h0|h0
        ·subst h0
         have M:¬v.m.kind=49:=fun h=>by
          have h1:=uf Vz.out (k:=0) (by rw[Qi,FJ.out];exact O);unfold jb at h1;rw[X.out.2,h,List.range_zero,List.any_nil]at h1
          revert h1
          decide
         rw[decide_eq_false M,Bool.not_false]at t;clear M;go_wp2_with fail
         go_quiet (fail)
         go_wp2;go_roundw
         case rel=>exact⟨1,by omega,rfl,Qh (below_drewN A.out _)⟩
         case measure=>simp[RowKit.intOf];omega
        ·obtain⟨m,hm⟩:∃m,j - 1=m:=⟨_,rfl⟩
         obtain⟨b4,o4,X7,_,_,Y⟩:=(N.out.1.below A.out).eo (show m<len0 by omega)
         cases X7
         obtain⟨y,hy⟩:∃y,ms.getD m bC=y:=⟨_,rfl⟩
         have J:=eb ms m;rw[hy]at Y J;have y0:=Y.1;have hl:=OE Jf.out (k:=j) (by rw[Qi,FJ.out];exact O) (by omega);rw[hm,J,X.out.2]at hl;have el:=ZR y.m.path v.m.path;rw[hl,Bool.not_true]at el;have q1:IntKind.i64.wrap ((j:Int) - 1)=(m:Int):=by rw[IntKind.wrap_i64];omega
         have hmz:(m:Int)<(len0:Int):=by omega
         have h0z:(0:Int)<(j:Int):=by omega
         clear Y hy J hl hm;go_wp2_with fail
         go_quiet (fail)
         clear y0 el;have PU:=Qh (below_drewN A.out nq)
         by_cases M:v.m.kind=49
         ·rw[decide_eq_true M,Bool.not_true]at t
          have vy:Hid (jb (ms.map MP.m) j 0=false):=Qh (by
           unfold jb;rw[X.out.2,M,List.range_zero,List.any_nil]
           rfl)
          clear M;go_wp2_with fail;clear d0 d1 d2 d3 d4 d5 d6 d7 t
          go_loopw [12,13] (fun o z wr=>∃(a:Nat) (B:Bool),a≤j∧o=.bool B∧z=.int .i64 (a:Int)∧Hid (jb (ms.map MP.m) j a=B)∧Hid (Below w6.heap.size w6 wr)) (fun _ z _=>j - (RowKit.intOf z).toNat)
          case atStart=>exact⟨0,false,Nat.zero_le _,rfl,rfl,vy,PU⟩
          case round=>
           clear PU vy;obtain⟨a,B,ha,rfl,rfl,l,A⟩:=hrel;obtain⟨b3,o3,he3,U,MH,vT⟩:=(N.out.1.below A.out).eo O
           cases he3
           rw[X.out.1]at vT;obtain⟨d0,d1,d2,d3,d4,d5,d6,d7⟩:=vT
           by_cases QU:a<j
           ·have Ya:=eb ms a
            obtain⟨u,hu⟩:∃u,ms.getD a bC=u:=⟨_,rfl⟩
            obtain⟨b4,o4,X7,G,QL,Y⟩:=(N.out.1.below A.out).eo (show a<len0 by omega)
            cases X7
            rw[hu]at Y Ya;have HU:=Qh Ya;obtain⟨c0,c1,c2,c3,c4,c5,c6,c7⟩:=Y;have e2:=Y0 u.m.path v.m.target;have e3:=oN u.m.kind 48 48 rfl;obtain⟨ku,hku⟩:∃ku:Int,(u.m.kind.toNat:Int)=ku:=⟨_,rfl⟩
            rw[hku]at c2 e3;have aa7:(a:Int)<(j:Int):=by omega
            have aa8:(a:Int)<(len0:Int):=by omega
            have WM:=Qh (zM (ms.map MP.m) j a);clear hu Ya U MH G QL hku
            cases B with
            |true=>
             have q:Hid (jb (ms.map MP.m) j (a+1)=true):=Qh (by rw[WM.out,l.out,Bool.true_or]);go_upto_region 20 with fail
             go_quiet (fail)
             go_wp2;go_roundw
             case rel=>exact⟨a+1,true,by omega,rfl,by go_num,q,Qh (below_drewN A.out _)⟩
             case measure=>simp[RowKit.intOf];omega
            |false=>
             by_cases het:u.m.path=v.m.target
             ·rw[decide_eq_true het]at e2
              obtain⟨k48,Rf⟩:∃z,decide (u.m.kind=48)=z:=⟨_,rfl⟩
              rw[Rf]at e3;have q:Hid (jb (ms.map MP.m) j (a+1)=k48):=Qh (by rw[WM.out,l.out,HU.out,X.out.2,decide_eq_true het,Rf,Bool.false_or,Bool.true_and]);clear het Rf;go_upto_region 20 with fail
              go_quiet (fail)
              go_wp2;go_roundw
              case rel=>exact⟨a+1,k48,by omega,rfl,by go_num,q,Qh (below_drewN A.out _)⟩
              case measure=>simp[RowKit.intOf];omega
             ·rw[decide_eq_false het]at e2
              have q:Hid (jb (ms.map MP.m) j (a+1)=false):=Qh (by rw[WM.out,l.out,HU.out,X.out.2,decide_eq_false het,Bool.false_or,Bool.false_and]);clear het;go_upto_region 20 with fail
              go_quiet (fail)
              go_wp2;go_roundw
              case rel=>exact⟨a+1,false,by omega,rfl,by go_num,q,Qh (below_drewN A.out _)⟩
              case measure=>simp[RowKit.intOf];omega
           ·obtain rfl:a=j:=by omega
            have ab7:¬((a:Int)<(a:Int)):=by omega
            have hBt:B=true:=by rw[←l.out];exact uf Vz.out (by rw[Qi,FJ.out];exact O)
            subst hBt;clear l d0 d1 d2 d3 d4 d5 d6 d7;go_wp2;go_roundw
            case rel=>exact⟨a+1,by omega,by go_num,A⟩
            case measure=>simp[RowKit.intOf];omega
         ·rw[decide_eq_false M,Bool.not_false]at t
          clear M;go_wp2;go_roundw
          case rel=>exact⟨j+1,by omega,by go_num,PU⟩
          case measure=>simp[RowKit.intOf];omega
       ·obtain rfl:j=len0:=by omega
        have ab8:¬((j:Int)<(j:Int)):=by omega
        have My:=Qh (Z.out.trans (A.out.mono Z.out.size));have kD:=Qh A.out;clear A;go_wp2_with fail;refine(Vo.out _ My.out).mono ?_;rintro e w9 ⟨rfl,Kx⟩;have Mz:=Qh (My.out.trans (Kx.mono My.out.size));have Xs:Below w6.heap.size w6 w9:=kD.out.trans (Kx.mono kD.out.size);have f0:w9.cell? ⟨d.heap.size,0,none⟩=some (.int .i64 0):=(ZL.out.below Xs ZL.out.lt).cell 0
        have ng:=HC.out.sorted w9 q5 j c5 ms ⟨N.out.1.below Xs,N.out.2.1,N.out.2.2,by omega,fun x I=>by
         have Yb:=eF (ei W.out x.m (by rw[←HMS.out];exact List.mem_map_of_mem I));have:=Yb.tN;have:=Yb.xk;have:=Yb.body
         exact⟨by omega,by omega,by omega⟩⟩ (HN.out.below Mz.out)
        rw[Jf.out]at ng;have ly:=Qh ng;clear Kx Xs ng;go_wp2_with fail;refine ly.out.mono ?_;rintro e OU ⟨rfl,Kv⟩;have M3:=Qh (Mz.out.trans (Kv.mono Mz.out.size));have rP:=HC.out.sorted OU a1 len1 cap1 xs1 ⟨Wh.out.below M3.out,S6.out.1,S6.out.2,by omega,Em.out⟩ (HN.out.below M3.out);rw[Tq.out]at rP;have Sh:=Qh rP;clear Kv rP f0;go_wp2_with fail;refine Sh.out.mono ?_;rintro e R6 ⟨rfl,TW⟩;have V:=Qh (M3.out.trans (TW.mono M3.out.size));have hRR:(R==R)=true:=by cases R<;>rfl
        clear TW;go_wp2;go_ret;exact⟨rfl,V.out⟩
end Go.Proofs.YtdhibldkldlfpaaGreatDoor.Walk
end
namespace Go.Proofs.YtdhibldkldlfpaaGreatDoor
set_option linter.unusedVariables false
namespace Walk
open Go.ChangeShapes Go.WideShapes Go.ChangeAt Go.RowKit Base bM cr Bk Rec Block Mem Tre ni Bl Go.Lib
theorem emitSorted (a0:Option Addr) (len0 cap0:Nat) (xs0:List NP) (a1:Option Addr) (len1 cap1:Nat) (xs1:List MP) (w:World) (ma0:aY w a0 len0 xs0) (lc0:len0≤cap0) (cm0:cap0≤maxLen) (by0:cap0*112≤140737488351232) (rm0:∀x∈xs0,Sm x.m∧vE x)
 (ma1:cN w a1 len1 xs1) (lc1:len1≤cap1) (cm1:cap1≤maxLen) (by1:cap1*96≤140737488351232) (rm1:∀x∈xs1,Ty x.m∧ze x) (hN:Need w):
 Calls Tryz.prog 6 #[.slice a0 len0 cap0,.slice a1 len1 cap1] w fun e w'=>e=.returned (.bool true)∧Below w.heap.size w w':=zC emitC a0 len0 cap0 xs0 a1 len1 cap1 xs1 w ma0 lc0 cm0 by0 rm0 ma1 lc1 cm1 by1 rm1 hN
end Walk
end Go.Proofs.YtdhibldkldlfpaaGreatDoor
