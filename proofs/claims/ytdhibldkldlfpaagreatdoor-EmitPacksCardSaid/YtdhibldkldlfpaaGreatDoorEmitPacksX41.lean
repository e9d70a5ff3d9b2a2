/- Merged. -/
import Derived.Test.YtdhibldkldlfpaaGreatDoorEmitPacksX22
import Derived.Test.YtdhibldkldlfpaaGreatDoorEmitPacksX30
import Derived.Test.YtdhibldkldlfpaaGreatDoorEmitPacksX38
import Derived.Test.YtdhibldkldlfpaaGreatDoorEmitPacksX39
import Derived.Test.YtdhibldkldlfpaaGreatDoorEmitPacksX40
import Derived.Shelf.SlIter.Sorted
import Derived.Test.YtdhibldkldlfpaaGreatDoorEmitPacksX33
import Derived.Test.YtdhibldkldlfpaaGreatDoorEmitPacksX36
import Derived.Test.YtdhibldkldlfpaaGreatDoorEmitPacksX34
import Derived.Test.YtdhibldkldlfpaaGreatDoorEmitPacksX35
import Derived.Test.YtdhibldkldlfpaaGreatDoorEmitPacksX37
namespace Go.Proofs.YtdhibldkldlfpaaGreatDoor
set_option linter.unusedVariables false
set_option maxHeartbeats 16000000
set_option maxRecDepth 100000
open Go.ChangeShapes Go.WideShapes Go.ChangeAt Go.RowKit Base cf cN Bk Go.Lib
variable {ts:List (List UInt8)} {B b c n:Nat} {p:Option Addr} {W w w':World}
namespace Tre
open Go.Shelf Mk
variable {f:List UInt8→Option Value}
theorem IM (x y:List UInt8):ltOf rC x y=eH x y:=by
 unfold ltOf;rw[Bool.eq_iff_iff,decide_eq_true_eq,zO]
theorem aj4:Go.Sort.SWO (ltOf rC) where
 irrefl x:=by rw[IM];exact ke x
 trans x y z h1 h2:=by rw[IM]at*;exact iA x y z h1 h2
 ntrans x y z h1 h2:=by
  rw[IM]at*
  cases h:eH x z with
  |false=>rfl
  |true=>rw[AF h h2]at h1;cases h1
def Na (w:World) (ks:List (List UInt8)) (e:Ending) (w':World):Prop:=
 ∃(v:Value) (ts:List (List UInt8)),e=.returned v∧ts.Perm ks∧ts.Pairwise (fun a b=>eH a b=true)∧w'.ownsRow w.heap.size 9 1 v ts.length (ts.map fun x=>.string (str x))∧Below w.heap.size w w'
theorem OP (B:Nat) (w:World):Calls Tryz.prog 87 #[.map (some B)] w fun e w'=>e=.returned (.func (.func 131) #[] #[.pointer (some ⟨w.heap.size,0,none⟩)])∧w'=w.alloc (.cells #[.map (some B)] 99):=
 callsIn_wide.1 (AnyZ.keys_in Tryz.CH Fence.wide 4 trivial rfl (some B) w)
theorem Mj {ks:List (List UInt8)} (hp:ts.Perm ks) (hn:ks.Nodup) (hs:ts.Pairwise fun a b=>eH b a=false):ts.Pairwise fun a b=>eH a b=true:=by
 have A:ts.Nodup:=hp.nodup_iff.2 hn;have:=hs.and A;refine this.imp fun⟨h1,A⟩=>?_
 exact mq h1 (fun e=>A e.symm)
theorem NA (Bm B:Nat) (w:World) (hb:w.cell? ⟨Bm,0,none⟩=some (.map (some B))) (hM:dd jo w B f) (hlen:∀x v,f x=some v→x.length≤maxLen) (ks:List (List UInt8)) (hnd:ks.Nodup) (lP:∀x,x∈ks↔(f x).isSome=true) (hsz:ks.length≤1000000000):
 Calls Tryz.prog 129 #[.func (.func 131) #[] #[.pointer (some ⟨Bm,0,none⟩)]] w fun e w'=>∃(v:Value) (ss:List (List UInt8)),e=.returned v∧ss.Perm ks∧w'.ownsRow w.heap.size 9 1 v ss.length (ss.map encStr)∧(v=.slice none 0 0↔ss=[])∧Below w.heap.size w w':=by
 obtain⟨D,E,H,A⟩:=Lf (P:=Tryz.prog) Tryz.underlying9 hM hlen ks hnd lP (by unfold maxLen;omega);have G:=AnyZ.keys_gives {Tryz.CH with} Fence.wide 4 trivial rfl (by omega) Bm B ks.length D w (World.block_lt_of_cell? _ _ hb) hb E;have h:=AnyZ.collect_in Tryz.OW Fence.wide 6 trivial trivial rfl (by omega) 131 #[.pointer (some ⟨Bm,0,none⟩)] trivial (enters_of Tryz.func131 (by kernel_rfl) rfl) (fun ss=>ss.Perm (strKeys D)) (Maps.size D) (by rw[A];unfold maxLen;omega) (by rw[A];omega) w G;exact(callsIn_wide.1 h).mono fun e w' ⟨v,ss,h1,h2,h3,h4,h5⟩=>⟨v,ss,h1,h2.trans H,h3,h4,h5⟩
theorem G0 (Bm B:Nat) (w:World) (hb:w.cell? ⟨Bm,0,none⟩=some (.map (some B))) (hM:dd jo w B f) (hlen:∀x v,f x=some v→x.length≤maxLen) (ks:List (List UInt8)) (hnd:ks.Nodup) (lP:∀x,x∈ks↔(f x).isSome=true) (hsz:ks.length≤1000000000):
 Calls Tryz.prog 86 #[.func (.func 131) #[] #[.pointer (some ⟨Bm,0,none⟩)],.func (.func 88) #[] #[]] w (Na w ks):=by
 have HC:=Qh (NA Bm B w hb hM hlen ks hnd lP hsz);have d:=Qh hnd;have c:=Qh hsz;clear hb hM hlen hnd lP hsz
 go_enter Tryz.func86,Tryz.ntmps86
 go_wp2_with fail
 refine HC.out.mono ?_;rintro e W ⟨v,ss,rfl,A,I,Y,D⟩;rcases I.2 with⟨rfl,hz⟩|⟨gb,cap,cur,rfl,L,G,O,R,T,r4⟩
 ·have o:ss=[]:=List.eq_nil_of_length_eq_zero hz
  subst o;have P:=Qh (And.intro A (And.intro I D));have H:=Qh (AnyF.slices_SortFunc_none Tryz.K4 none 0 (.func (.func 88) #[] #[]) W);change Hid (Calls Tryz.prog 130 _ _ _)at H;clear A I D Y;go_wp2_with fail;refine H.out.mono ?_;rintro e p ⟨rfl,rfl⟩;go_wp2;go_ret;exact⟨.slice none 0 0,[],rfl,P.out.1,List.Pairwise.nil,by simpa using P.out.2.1,P.out.2.2⟩
 ·have hH:Go.Sort.Holds encStr W gb 0 ss.toArray:=holds_of_block G (by simpa using r4)
  have X:gb<W.heap.size:=(Array.getElem?_eq_some_iff.1 G).1;have hl:ss.length≤1000000000:=by rw[A.length_eq];exact c.out
  have J:=Any.slices_SortFunc Tryz.K3 encStr (fun _=>rfl) rC aj4 88 #[] gb 0 cap ss.toArray W (enters_of Tryz.func88 (by kernel_rfl) rfl)
   (fun m os q _ x y=>(sJ x y _).mono fun e w' ⟨h1,h2⟩=>⟨h1,0,#[],by rw[←h2,Go.Sort.grow_empty];rfl⟩) hH X (by simp;omega)
  change Calls Tryz.prog 130 _ _ _ at J;rw[List.size_toArray]at J;have H:=Qh J;have P:=Qh (And.intro A (And.intro D (And.intro L (And.intro G (And.intro O (And.intro R T))))));clear J A D Y I hH X hl r4;go_wp2_with fail;refine H.out.mono ?_;rintro e p ⟨rfl,d',g,os,Z,hs,rfl⟩;have b:=Qh (And.intro Z hs);clear Z hs;go_wp2;go_ret;obtain⟨A,D,L,G,O,R,T⟩:=P.out;obtain⟨⟨U,_,N⟩,hs⟩:=b.out;have M:d'.toList.length=ss.length:=by simpa using U
  have V:d'.toList.Perm ss:=by
   have:(d'.extract 0 ss.length).toList.Perm (ss.toArray.extract 0 ss.length).toList:=N;have e:ss.length=d'.size:=by simpa using U.symm
   simpa [e,List.take_of_length_le (Nat.le_of_eq e)]using this
  refine⟨_,d'.toList,rfl,V.trans A,Mj (V.trans A) d.out ?_,?_,D.grown (grownBy_sorted _) D.size (fun j E=>by cases E;exact L)⟩
  ·refine List.pairwise_iff_getElem.2 fun i j hi E l=>?_
   have:=hs i j (Nat.zero_le _) l (by rw[M]at E;exact E);rw[IM]at this;simp only[Array.length_toList]at hi E
   simpa [getElem!_pos,hi,E]using this
  ·rw[M]
   have:=ownsRow_sorted (w:=W) (base:=w.heap.size) (n:=g) (e:=9) (os:=os) (ss:=ss) (ts:=d'.toList) M L G O R T;simp only[Array.toArray_toList]at this;exact this
end Tre
namespace Tre
open Mk Mem
def CZ:jh Nat where
 enc n:=.int .i64 (n:Int)
 kind:=.int .i64
 isKey _:=rfl
 inj a b h:=by injection h with _ h;omega
 same a:=by simp[Instr.sameBits]
def Yr (w:World) (p:Option Addr) (n:Nat) (ts:List (List UInt8)):Prop:=
 0<n→∃b o,p=some ⟨b,o,none⟩∧b<w.heap.size∧∀i,i<n→w.cell? ⟨b,o+i,none⟩=some (.string (str (ts.getD i [])))
theorem Yr.bV {S:Nat→Prop} (h:Yr w p n ts) (hk:Kept S w w') (hn:∀k,k<w.heap.size→¬S k):Yr w' p n ts:=fun B=>by
 obtain⟨b,o,rfl,A,hc⟩:=h B;exact⟨b,o,rfl,Nat.lt_of_lt_of_le A hk.size,fun i hi=>by rw[World.cell?_of_block (hk.block b A (hn b A))];exact hc i hi⟩
theorem GQ {base:Nat} {e:TypeId} {v:Value} (h:w.ownsRow base e 1 v ts.length (ts.map fun x=>.string (str x))):
 ∃p c,v=.slice p ts.length c∧Yr w p ts.length ts:=by
 have D:=h;have B:=h.lt;rcases h.2 with⟨rfl,A⟩|⟨g,cap,cur,rfl,hg,_,h1,h2,_⟩
 ·exact⟨none,0,by rw[A],fun E=>by omega⟩
 ·refine⟨some ⟨g,0,none⟩,cap,rfl,fun A=>⟨g,0,rfl,(B g rfl).2,fun i hi=>?_⟩⟩
  rw[Nat.zero_add,D.cellAt i (by omega),List.getElem?_map,Qd (by omega)];simp[List.getD,hi]
def nE (f:Nat→Option Nat):Nat→Option Value:=fun x=>(f x).map fun n=>.int .i64 (n:Int)
def Nd (w:World) (t:List aC) (e:Ending) (w':World):Prop:=
 ∃q d zs,e=.returned (.slice q t.length d)∧zs.map NP.m=t∧aV w' q t.length zs∧t.length≤d∧d≤maxLen∧Below w.heap.size w w'∧(∀x,q=some x→w.heap.size≤x.block)∧(∀y∈zs,∀x,y.p=some x→w.heap.size≤x.block)
structure TI (w w4 wr:World) (gt bl g B:Nat) (p:Option Addr) (n c:Nat) (ms:List aw) (S T:St) (k:Nat) (zs:List NP):Prop where
 bel:Below w.heap.size w wr
 kp:Kept (sk gt (some bl)) w4 wr
 lay:mV wr g B p n c (look S)
 row:Rw wr gt zs
 len:zs.length=T.length
 map:dd CZ wr bl (nE (leads ms T k))
 done:∀j,j<k→(zs.getD j aD).m=td ms T (T.getD j ([],0))
 rest:∀j,k≤j→zs.getD j aD=aD
 BZ:∀x∈zs,cY wr x∧∀a,x.p=some a→w4.heap.size≤a.block
theorem TI.step {w4 wr W':World} {gt bl g:Nat} {ms:List aw} {S T:St} {k:Nat} {zs:List NP} (hI:TI w w4 wr gt bl g B p n c ms S T k zs) (hk:k<T.length) (vD:Kept (sk gt (some bl)) wr W') (hb:Below w.heap.size w W')
 (hw:w.heap.size≤gt∧w.heap.size≤bl∧gt<w4.heap.size∧bl<w4.heap.size) (ao:g<w.heap.size∧B<w.heap.size) {y:NP} (bC:Rw W' gt (zs.set k y)) (xG:dd CZ W' bl (nE (leads ms T (k+1)))) (hy:y.m=td ms T (T.getD k ([],0))) (qq:cY W' y) (Wa:∀a,y.p=some a→w4.heap.size≤a.block):
 TI w w4 W' gt bl g B p n c ms S T (k+1) (zs.set k y):=by
 have E:k<zs.length:=by rw[hI.len];exact hk
 have off:∀b,b<w.heap.size→¬sk gt (some bl) b:=fun b hb h=>by
  rcases h with h|h
  ·omega
  ·cases h;omega
 refine⟨hb,hI.kp.trans vD,⟨hI.lay.obj.bV vD (off g ao.1),hI.lay.map.kept vD (off B ao.2)⟩,bC,by rw[List.length_set];exact hI.len,xG,fun j H=>?_,fun j H=>?_,fun x A=>?_⟩
 ·rw[getSet zs k j y E]
  by_cases h:j=k
  ·rw[if_pos h,h];exact hy
  ·rw[if_neg h];exact hI.done j (by omega)
 ·rw[getSet zs k j y E,if_neg (by omega)]
  exact hI.rest j (by omega)
 ·rcases List.mem_or_eq_of_mem_set A with A|rfl
  ·obtain⟨h1,D⟩:=hI.BZ x A
   refine⟨h1.kept vD (fun _ a G h=>?_),D⟩;have:=D a G;rcases h with h|h
   ·omega
   ·injection h with h;omega
  ·exact⟨qq,Wa⟩
theorem Pg {y:MP} (h:au W b 48 y.cs):
 W.cell? ⟨b,1,none⟩=some (.string (str y.m.target))∧W.cell? ⟨b,2,none⟩=some (.int .u8 (y.m.kind.toNat:Int))∧W.cell? ⟨b,3,none⟩=some (.int .i64 y.m.mode)∧W.cell? ⟨b,4,none⟩=some (.int .i64 y.m.uid)∧W.cell? ⟨b,5,none⟩=some (.int .i64 y.m.gid)∧W.cell? ⟨b,6,none⟩=some (.int .i64 y.m.time)∧W.cell? ⟨b,7,none⟩=some (.slice y.p y.m.body.length y.c):=
 ⟨h.cell 1,h.cell 2,h.cell 3,h.cell 4,h.cell 5,h.cell 6,h.cell 7⟩
theorem wF (S:St) (x:List UInt8):(gr (look S) x).isSome=(look S x).isSome:=by
 unfold gr
 cases look S x<;>rfl
theorem Qp (g B:Nat) (p:Option Addr) (n c:Nat) (xs:List MP) (S:St) (w:World) (hM:dD w p n xs) (hn:n≤1000000000) (hL:mV w g B p n c (look S)) (hA:jX S) (hS:QE S n) (hsz:S.length≤1000000) (hlen:∀e∈S,e.1.length≤maxLen) (hR:∀x∈xs,x.m.body.length≤140737488351232):
 Calls Tryz.prog 61 #[.pointer (some ⟨g,0,none⟩)] w (Nd w (nX (xs.map MP.m) S)):=by
 obtain⟨i0,hi,eo,dH,dM⟩:=info_parts Ao;have HI:=Qh hi;have jr:=Qh eo;have ib:=Qh dH;have js:=Qh dM;have Ae:=@run_makeMap Tryz.prog;have HM:=Qh hM;have pZ:=Qh hM.1;have HL:=Qh hL;have HA:=Qh hA;have HS:=Qh hS;have fb:=Qh hlen;have TA:=Qh hR;have g1:=hL.obj.cell 1;simp only[Qc,Qa,Qb]at g1;have fE:=Qh (OP B w);have ef:Below w.heap.size w (w.alloc (.cells #[.map (some B)] 99)):=(Below.refl _ _).alloc (Qk _) _;have Vt:=hL.below ef
 have gU:=Qh (G0 w.heap.size B (w.alloc (.cells #[.map (some B)] 99)) ((au.new w 99 #[.map (some B)]).cell 0) Vt.map (fun x v hv=>by
  have:x∈S.map (·.1):=(ny x).1 (by rw[←wF,hv];rfl);obtain⟨e,he,rfl⟩:=List.mem_map.1 this
  exact hlen e he) (S.map fun e:List UInt8 × Nat=>e.1) hA (fun x=>by rw[wF,ny]) (by rw[Qi];omega))
 have Rr:=Qh ef;have im:=Qh hsz;clear hi eo dH dM hM hL hA hS hlen hR Vt ef hsz
 go_enter Tryz.func61,Tryz.ntmps61
 go_wp2_with fail
 refine fE.out.mono ?_;rintro e w1 ⟨rfl,rfl⟩;go_wp2_with fail;refine gU.out.mono ?_;rintro e A ⟨v,ts,rfl,iZ,T7,bC,bY⟩;obtain⟨p3,c3,rfl,ZG⟩:=GQ bC;have bT:=Qh (Rr.out.trans (bY.mono Rr.out.size));have Ro:=Qh ZG;have UL:=Qh (And.intro iZ T7);have Zq:ts.length=S.length:=by rw[iZ.length_eq,Qi]
 have Re:=Qh Zq;obtain⟨m,hm⟩:∃m,ts.length=m:=⟨_,rfl⟩
 rw[hm]at Ro Re⊢;have r:=Qh hm;have VU:m≤1000000:=by rw[←hm,Zq];exact im.out
 clear iZ T7 bC bY ZG Zq hm g1 fE gU
 go_wp2_with (at_make;refine wpList_make_full _ rfl _ _ 22 rfl A.heap.size 52 i0 _ 9 Tryz.underlying22 HI.out jr.out ib.out .i64 .i64 _ _ m rfl rfl rfl rfl ?mk1 ?mk2 (Qk _) ?_)
 case mk1=>rw[js.out];omega
 case mk2=>unfold maxLen;omega
 intro w3 nr aS
 have QS:=Je (B:=A.heap.size) (w':=w3) (g:=A.heap.size) (n:=m) (by
  have h9:=nr;rw[vZ]at h9
  exact h9)
 have dt:Kept ai A w3:=(Kept.refl ai A).grown aS (fun k h=>by cases h);have eN:Below A.heap.size A w3:=dt.below (Qk _) (fun _ h=>h.elim);have Hn:=Qh QS;have fV:=Qh eN;have Y:Hid (A.heap.size<w3.heap.size):=Qh (au.lt QS);clear nr aS QS dt eN;obtain⟨w4,qv⟩:∃w4,w3.alloc (.map #[] 0)=w4:=⟨_,rfl⟩
 have gY:Below w3.heap.size w3 w4:=by rw[←qv];exact(Below.refl _ _).alloc (Qk _) _
 have R9:dd CZ w4 w3.heap.size (fun _=>none):=by rw[←qv];exact jU CZ w3
 have Se:w4.heap.size=w3.heap.size+1:=by rw[←qv];simp
 obtain⟨T,hT⟩:∃T,mL S=T:=⟨_,rfl⟩
 have HT:Hid (T=ts.map fun x=>(x,(look S x).getD 0)):=Qh (by rw[←hT];exact K0 HA.out UL.out.1 UL.out.2);have HTD:Hid (nX (xs.map MP.m) S=T.map (td (xs.map MP.m) T)):=Qh (by rw[nX,hT]);have TE:Hid (T.length=m):=Qh (by rw[HT.out,Qi,r.out]);have mN:=Qh (bT.out.trans ((fV.out.trans (gY.mono fV.out.size)).mono bT.out.size));have Yk:Hid (Yr w4 p3 m ts):=Qh (Ro.out.bV (Kept.aO (fV.out.trans (gY.mono fV.out.size)) ai) (fun _ _ h=>h.elim))
 have ku:Hid (0<m→∀a,p3=some a→a.block<A.heap.size):=Qh (fun h0 a O=>by
  obtain⟨b,o,he,hb,_⟩:=Ro.out h0;rw[O]at he
  cases he
  exact hb)
 have HTI:Hid (TI w w4 w4 A.heap.size w3.heap.size g B p n c (xs.map MP.m) S T 0 (List.replicate m aD)):=Qh
  {bel:=mN.out,kp:=Kept.refl _ _,lay:=HL.out.below mN.out,row:=au.below Hn.out gY Y.out,len:=by rw[List.length_replicate,TE.out]
   map:=by
    have e:nE (leads (xs.map MP.m) T 0)=fun _=>none:=by funext n;unfold nE;rw[FU];rfl
    rw[e];exact R9
   done:=fun j hj=>by omega
   rest:=fun j _=>by
    rw[List.getD,List.getElem?_replicate];split<;>rfl
   BZ:=fun x I=>by
    rw[(List.mem_replicate.1 I).2]
    exact⟨DU _,fun a h=>by cases h⟩}
 have ad4:=Qh Se;clear gY R9 hT Hn fV Ro Se;go_upto_region 4 with fail;clear qv Ae;go_wp2_with fail
 go_loopw [6,7,8,9,10,11,24,59] (fun _ _ _ _ _ _ i _ wr=>∃(k:Nat) (zs:List NP),k≤m∧i=.int .i64 (k:Int)∧Hid (TI w w4 wr A.heap.size w3.heap.size g B p n c (xs.map MP.m) S T k zs)) (fun _ _ _ _ _ _ i _ _=>m - (RowKit.intOf i).toNat)
 case atStart=>exact⟨0,List.replicate m aD,Nat.zero_le _,rfl,HTI⟩
 case round=>
  obtain⟨k,zs,hk,rfl,E⟩:=hrel
  by_cases ao:k<m
  ·have L:k<T.length:=by rw[TE.out];exact ao
   have R:k<zs.length:=by rw[E.out.len];exact L
   have R4:k<ts.length:=by rw[r.out];exact ao
   obtain⟨x,I⟩:∃x,ts.getD k []=x:=⟨_,rfl⟩
   have hxm:x∈ts:=by rw[←I,List.getD,Qd R4];exact List.getElem_mem R4
   obtain⟨G,KT⟩:=Option.isSome_iff_exists.1 ((ny x).2 (UL.out.1.mem_iff.1 hxm))
   have Xq:T.getD k ([],0)=(x,G):=by
    rw[HT.out,List.getD,List.getElem?_map,Qd R4];rw[List.getD,Qd R4]at I;simp only[Option.getD_some]at I;simp only[Option.map_some,Option.getD_some,I,KT]
   have Bj:G<n:=HS.out.look KT
   have D:w.heap.size≤A.heap.size∧w.heap.size≤w3.heap.size∧A.heap.size<w4.heap.size∧w3.heap.size<w4.heap.size:=by
    have h1:=bT.out.size;have M:=Y.out;have h3:=ad4.out;omega
   have V:g<w.heap.size∧B<w.heap.size:=⟨HL.out.obj.lt,HL.out.map.lt⟩
   obtain⟨b3,o3,hp3,eN,Ci⟩:=Yk.out (by omega);have VA:=ku.out (by omega) _ hp3;subst hp3
   have YR:¬sk A.heap.size (some w3.heap.size) b3:=fun h=>by
    have h3:=Y.out;rcases h with h|h
    ·simp only at VA;omega
    ·injection h with h;simp only at VA;omega
   have UD:Hid (∀W',Kept (sk A.heap.size (some w3.heap.size)) w4 W'→∀i,i<m→W'.cell? ⟨b3,o3+i,none⟩=some (.string (str (ts.getD i [])))):=Qh (fun W' hk i hi=>by
    rw[World.cell?_of_block (hk.block b3 eN YR)];exact Ci i hi)
   have z0:=UD.out wr E.out.kp k ao;rw[I]at z0;have g0:=E.out.lay.obj.cell 0;have g1:=E.out.lay.obj.cell 1;simp only[Qc,Qa,Qb]at g0 g1
   have lk:(Instr.lookup 99 (.map (some B)) (.string (str x)) false).run Tryz.prog wr=.ok (.int .i64 (G:Int)) wr:=by
    have h:=E.out.lay.map.look (P:=Tryz.prog) Tryz.underlying99 Tryz.underlying9 (z:=.int .i64 0) (fun w=>Tryz.zeroValue3 w) x;rw[show gr (look S) x=some (.int .i64 (G:Int)) by rw[gr,KT];rfl]at h;exact h
   obtain⟨b1,o1,D6,ck,mK,Od⟩:=(HM.out.below E.out.bel).kU Bj;subst D6;have N4:=j3 xs G;have u:=TA.out _ (lA xs G (by rw[pZ.out];exact Bj));obtain⟨y,hy⟩:∃y,xs.getD G cn=y:=⟨_,rfl⟩
   rw[hy]at mK Od N4 u;obtain⟨c0,c1,c2,c3,c4,c5,c6,c7⟩:=Od;obtain⟨W5,pC⟩:∃W5,wr.alloc (.cells y.cs 48)=W5:=⟨_,rfl⟩
   have xr:Below wr.heap.size wr W5:=by rw[←pC];exact(Below.refl _ _).alloc (Qk _) _
   have N:au W5 wr.heap.size 48 y.cs:=by rw[←pC];exact au.new wr _ _
   have o4:=Qh xr;have WM:=Qh N;have QA:Hid (∀w',Below W5.heap.size W5 w'→w'.cell? ⟨wr.heap.size,1,none⟩=some (.string (str y.m.target))∧w'.cell? ⟨wr.heap.size,2,none⟩=some (.int .u8 (y.m.kind.toNat:Int))∧w'.cell? ⟨wr.heap.size,3,none⟩=some (.int .i64 y.m.mode)∧w'.cell? ⟨wr.heap.size,4,none⟩=some (.int .i64 y.m.uid)∧w'.cell? ⟨wr.heap.size,5,none⟩=some (.int .i64 y.m.gid)∧w'.cell? ⟨wr.heap.size,6,none⟩=some (.int .i64 y.m.time)∧w'.cell? ⟨wr.heap.size,7,none⟩=some (.slice y.p y.m.body.length y.c)):=Qh (fun w' h=>Pg (N.below h N.lt));have W:Hid (Below W5.heap.size W5 W5.drew):=Qh (below_drewN (Below.refl W5.heap.size W5) 1);have Q4:Hid (∀w',Below W5.heap.size W5 w'→Calls Tryz.prog 49 #[.slice y.p y.m.body.length y.c] w' (jM w' y.m.body.length y.m.body)):=Qh (fun w' h=>lx y.p y.m.body.length y.c y.m.body w' ((mK.below xr).below h).gC rfl u);unfold jM at Q4;have H:=Qh (And.intro L (And.intro R (And.intro Xq (And.intro D V))));have Bu:=Qh N4;have Q9:Hid (A.heap.size<wr.heap.size):=Qh (au.lt E.out.row);have Zw:(G:Int)<(n:Int):=by omega
   have Zr:(0:Int)≤(G:Int):=by omega
   have am4:(k:Int)<(m:Int):=by omega
   unfold MP.cs dj at pC;have HX:=Qh I;clear L R R4 hxm Xq Bj D V eN Ci VA YR ck mK N4 u hy xr N KT I;go_upto_region 9 with fail;clear pC c0 c1 c2 c3 c4 c5 c6 c7 g0 g1 lk z0;go_wp2_with fail
   go_region_held_law (fun w'=>w'.cell? ⟨wr.heap.size,1,none⟩=some (.string (str y.m.target))∧w'.cell? ⟨wr.heap.size,2,none⟩=some (.int .u8 (y.m.kind.toNat:Int))∧w'.cell? ⟨wr.heap.size,3,none⟩=some (.int .i64 y.m.mode)∧w'.cell? ⟨wr.heap.size,4,none⟩=some (.int .i64 y.m.uid)∧w'.cell? ⟨wr.heap.size,5,none⟩=some (.int .i64 y.m.gid)∧w'.cell? ⟨wr.heap.size,6,none⟩=some (.int .i64 y.m.time)∧w'.cell? ⟨wr.heap.size,7,none⟩=some (.slice y.p y.m.body.length y.c)) (first|with_reducible exact QA.out _ W.out|exact Pg (DG rm.out (Nat.ne_of_lt Q9.out) _ _ _ _ _ _ _ _ _)) (first
    |(go_at_call 49
      refine(Q4.out _ ?_).mono ?_
      (with_reducible exact W.out)
      rintro e wa ⟨q,d,rfl,hle,Ov,o8,FD,kW⟩;have W:=Qh (W.out.trans (kW.mono W.out.size));have rm:=Qh (WM.out.below W.out WM.out.lt);have J:Rw wa A.heap.size zs:=au.below (au.below E.out.row o4.out Q9.out) W.out (Nat.lt_of_lt_of_le Q9.out o4.out.size);have tF:=Qh J;have P:=Qh (And.intro hle (And.intro Ov (And.intro o8 FD)));obtain⟨r0,r1,r2,r3,r4,r5,r6,r7,r8⟩:=J.dF H.out.2.1;have f0:=au.frozen J (k*9);have f1:=au.frozen J (k*9+1);have f2:=au.frozen J (k*9+2);have f3:=au.frozen J (k*9+3);have f4:=au.frozen J (k*9+4);have f5:=au.frozen J (k*9+5);have f6:=au.frozen J (k*9+6);have f7:=au.frozen J (k*9+7);have f8:=au.frozen J (k*9+8)
      clear hle Ov o8 FD kW J))
   obtain⟨W6,Im⟩:∃W6,(((((((((wa.setCell ⟨A.heap.size,k*9,none⟩ (.string (str x))).setCell ⟨A.heap.size,k*9+1,none⟩ (.string (str y.m.target))).setCell ⟨A.heap.size,k*9+2,none⟩ (.string ⟨#[]⟩)).setCell ⟨A.heap.size,k*9+3,none⟩ (.int .u8 (y.m.kind.toNat:Int))).setCell ⟨A.heap.size,k*9+4,none⟩ (.int .i64 y.m.mode)).setCell ⟨A.heap.size,k*9+5,none⟩ (.int .i64 y.m.uid)).setCell ⟨A.heap.size,k*9+6,none⟩ (.int .i64 y.m.gid)).setCell ⟨A.heap.size,k*9+7,none⟩ (.int .i64 y.m.time)).setCell ⟨A.heap.size,k*9+8,none⟩ (.slice q y.m.body.length d))=W6:=⟨_,rfl⟩
   have xt:Kept (ay A.heap.size) wa W6:=by rw[←Im];exact Jd (S:=ay A.heap.size) rfl _ _ _ _ _ _ _ _ _
   have Bl:Rw W6 A.heap.size (zs.set k ⟨jb x y.m [],q,d⟩):=by rw[←Im];exact tF.out.set H.out.2.1 ⟨jb x y.m [],q,d⟩
   have T2:au W6 wr.heap.size 48 y.cs:=by rw[←Im];exact DG rm.out (Nat.ne_of_lt Q9.out) _ _ _ _ _ _ _ _ _
   rw[Im];clear Im r0 r1 r2 r3 r4 r5 r6 r7 r8 f0 f1 f2 f3 f4 f5 f6 f7 f8;have hwa:Below wr.heap.size wr wa:=o4.out.trans (W.out.mono o4.out.size);have M0:Hid (Kept (sk A.heap.size (some w3.heap.size)) wr W6):=Qh ((Kept.aO hwa _).trans (xt.mono (fun k h=>.inl h)))
   have Xb:Hid (∀a,q=some a→w4.heap.size≤a.block):=Qh (fun a O=>by
    have h1:=P.out.2.2.2 a O;have M:=o4.out.size;have h3:=E.out.kp.size;have h4:W5.heap.size≤a.block:=h1
    omega)
   have t:Hid (cY W6 ⟨jb x y.m [],q,d⟩):=Qh ⟨P.out.2.2.1.kept xt (fun _ a O h=>by
    have h1:=Xb.out a O;have M:a.block=A.heap.size:=h;have h3:=H.out.2.2.2.1.2.2.1
    omega),P.out.1,P.out.2.1⟩
   have pq:Hid (dd CZ W6 w3.heap.size (nE (leads (xs.map MP.m) T k))):=Qh ((E.out.map.kept (Kept.aO hwa ai) (fun h=>h.elim)).kept xt (fun e=>by have h1:=Y.out;have M:w3.heap.size=A.heap.size:=e;omega));have Hl:=Qh Bl
   have mP:Hid (td (xs.map MP.m) T (T.getD k ([],0))=jb x y.m (if y.m.kind=48 then pg T G else[])):=Qh (by
    rw[H.out.2.2.1];unfold td
    rw[Bu.out])
   have y2:=T2.cell 2;have ek:=qz y.m.kind 48 48 rfl;obtain⟨kn,cu⟩:∃kn:Int,(y.m.kind.toNat:Int)=kn:=⟨_,rfl⟩
   simp only[MP.cs,dj,Qc,Qa,Qb]at y2;rw[cu]at y2 ek;clear hwa xt Bl T2 cu
   by_cases X:y.m.kind=48
   ·rw[decide_eq_true X]at ek
    have Tq:=Qh X;have Z:Hid (((xs.map MP.m).getD (T.getD k ([],0)).2 dy).kind=48):=Qh (by rw[H.out.2.2.1,Bu.out];exact X);have M1:=Qh (pq.out.look_ok (P:=Tryz.prog) Tryz.underlying156 Tryz.underlying3 (z:=.int .i64 0) (fun w=>Tryz.zeroValue3 w) G);have Ym:Hid ((T.getD k ([],0)).2=G):=Qh (by rw[H.out.2.2.1]);obtain⟨fo,xE⟩:∃fo,leads (xs.map MP.m) T k G=fo:=⟨_,rfl⟩
    have zE:=Qh xE;unfold nE at M1;rw[xE]at M1;clear X xE
    cases fo with
    |none=>
     have Wi:(Instr.lookup 156 (.map (some w3.heap.size)) (.int .i64 (G:Int)) true).run Tryz.prog W6=.ok (.tuple #[.int .i64 0,.bool false]) W6:=M1.out;clear M1
     go_wp2_with (at_mapUpdate;refine dB (K:=CZ) rfl (.tmp 68) (.tmp 69) (.tmp 70) rfl Tryz.underlying156 Tryz.underlying3 w3.heap.size pq.out rfl G rfl (.int .i64 (k:Int)) rfl ?_)
     intro w7 uh tM Sc;have VP:Kept (sk A.heap.size (some w3.heap.size)) W6 w7:=tM.out.mono (fun k h=>.inr (by rw[show k=w3.heap.size from h]));have XY:=Qh (M0.out.trans VP);have U:Rw w7 A.heap.size (zs.set k ⟨jb x y.m [],q,d⟩):=au.bV Hl.out tM.out (fun e=>by have h1:=Y.out;have M:A.heap.size=w3.heap.size:=e;omega);have z0:=UD.out w7 (E.out.kp.trans XY.out) k ao;rw[HX.out]at z0
     have YE:dd CZ w7 w3.heap.size (nE (leads (xs.map MP.m) T (k+1))):=by
      have e:=K7 H.out.1 Z.out (by rw[Ym.out];exact zE.out)
      have e2:nE (leads (xs.map MP.m) T (k+1))=fun y=>if y=G then some (.int .i64 (k:Int))else nE (leads (xs.map MP.m) T k) y:=by
       funext v
       unfold nE;rw[e,Ym.out]
       by_cases h:v=G<;>simp[h]
      rw[e2];exact uh.out
     have YD:pg T G=x:=by
      have h:=vR H.out.1 Z.out;rw[Ym.out,zE.out,Option.getD_none,H.out.2.2.1]at h;exact h
     have HN:Hid (TI w w4 (w7.setCell ⟨A.heap.size,k*9+2,none⟩ (.string (str x))) A.heap.size w3.heap.size g B (some ⟨b1,o1,none⟩) n c (xs.map MP.m) S T (k+1) (zs.set k ⟨jb x y.m x,q,d⟩)):=by
      have vD:Kept (sk A.heap.size (some w3.heap.size)) wr (w7.setCell ⟨A.heap.size,k*9+2,none⟩ (.string (str x))):=XY.out.setCell (a:=⟨A.heap.size,k*9+2,none⟩) (.inr (.inl rfl)) _;have OG:Kept (ay A.heap.size) w7 (w7.setCell ⟨A.heap.size,k*9+2,none⟩ (.string (str x))):=(Kept.refl (ay A.heap.size) _).setCell (a:=⟨A.heap.size,k*9+2,none⟩) (.inr rfl) _;obtain⟨L,R,Xq,D,V⟩:=H.out
      have bC:Rw (w7.setCell ⟨A.heap.size,k*9+2,none⟩ (.string (str x))) A.heap.size (zs.set k ⟨jb x y.m x,q,d⟩):=by
       have h:=Rw.lead (k:=k) U (by rw[List.length_set];exact R) x;rw[List.set_set,getSet zs k k _ R,if_pos rfl]at h;exact h
      refine Qh (E.out.step L vD (E.out.bel.trans (vD.below E.out.bel.size (fun b hb=>by
       rcases hb with hb|hb
       ·rw[hb];exact D.1
       ·injection hb with hb;rw[hb];exact D.2.1))) D V bC (YE.kept OG (fun e=>by have h1:=Y.out;have M:w3.heap.size=A.heap.size:=e;omega)) ?_ ?_ ?_)
      ·rw[mP.out]
       show jb x y.m x=_;rw[if_pos Tq.out,YD]
      ·exact⟨(t.out.gC.kept (VP.setCell (a:=⟨A.heap.size,k*9+2,none⟩) (.inr (.inl rfl)) _) (fun _ a O h=>by
        have h1:=Xb.out a O;rcases h with h|h
        ·omega
        ·injection h with h;omega)),t.out.le,t.out.mx⟩
      ·exact Xb.out
     have r2:=(U.dF (show k<(zs.set k ⟨jb x y.m [],q,d⟩).length by rw[List.length_set];exact H.out.2.1)).2.2.1;have f2:=au.frozen U (k*9+2);have hkm:(k:Int)<(m:Int):=by omega
     clear VP U YE YD uh tM Sc;go_wp2;go_roundw
     case rel=>exact⟨k+1,_,by omega,by go_num,HN⟩
     case measure=>simp[RowKit.intOf];omega
    |some f=>
     have hfk:=O1 zE.out;have hfm:f<m:=by omega
     have Wi:(Instr.lookup 156 (.map (some w3.heap.size)) (.int .i64 (G:Int)) true).run Tryz.prog W6=.ok (.tuple #[.int .i64 (f:Int),.bool true]) W6:=M1.out;obtain⟨l,hl⟩:∃l,ts.getD f []=l:=⟨_,rfl⟩
     have z0:=UD.out W6 (E.out.kp.trans M0.out) f hfm;rw[hl]at z0
     have YE:dd CZ W6 w3.heap.size (nE (leads (xs.map MP.m) T (k+1))):=by
      rw[K8 H.out.1 (by rw[Ym.out];exact zE.out)];exact pq.out
     have YD:pg T G=l:=by
      have h:=vR H.out.1 Z.out;rw[Ym.out,zE.out,Option.getD_some]at h;rw[h,←hl,HT.out,List.getD,List.getD,List.getElem?_map,Qd (show f<ts.length by rw[r.out];exact hfm)];rfl
     have U:=Hl.out
     have HN:Hid (TI w w4 (W6.setCell ⟨A.heap.size,k*9+2,none⟩ (.string (str l))) A.heap.size w3.heap.size g B (some ⟨b1,o1,none⟩) n c (xs.map MP.m) S T (k+1) (zs.set k ⟨jb x y.m l,q,d⟩)):=by
      have vD:Kept (sk A.heap.size (some w3.heap.size)) wr (W6.setCell ⟨A.heap.size,k*9+2,none⟩ (.string (str l))):=M0.out.setCell (a:=⟨A.heap.size,k*9+2,none⟩) (.inr (.inl rfl)) _;have OG:Kept (ay A.heap.size) W6 (W6.setCell ⟨A.heap.size,k*9+2,none⟩ (.string (str l))):=(Kept.refl (ay A.heap.size) _).setCell (a:=⟨A.heap.size,k*9+2,none⟩) (.inr rfl) _;obtain⟨L,R,Xq,D,V⟩:=H.out
      have bC:Rw (W6.setCell ⟨A.heap.size,k*9+2,none⟩ (.string (str l))) A.heap.size (zs.set k ⟨jb x y.m l,q,d⟩):=by
       have h:=Rw.lead (k:=k) U (by rw[List.length_set];exact R) l;rw[List.set_set,getSet zs k k _ R,if_pos rfl]at h;exact h
      refine Qh (E.out.step L vD (E.out.bel.trans (vD.below E.out.bel.size (fun b hb=>by
       rcases hb with hb|hb
       ·rw[hb];exact D.1
       ·injection hb with hb;rw[hb];exact D.2.1))) D V bC (YE.kept OG (fun e=>by have h1:=Y.out;have M:w3.heap.size=A.heap.size:=e;omega)) ?_ ?_ ?_)
      ·rw[mP.out]
       show jb x y.m l=_;rw[if_pos Tq.out,YD]
      ·exact⟨(t.out.gC.kept ((Kept.refl (sk A.heap.size (some w3.heap.size)) W6).setCell (a:=⟨A.heap.size,k*9+2,none⟩) (.inr (.inl rfl)) _) (fun _ a O h=>by
        have h1:=Xb.out a O;rcases h with h|h
        ·omega
        ·injection h with h;omega)),t.out.le,t.out.mx⟩
      ·exact Xb.out
     have r2:=(U.dF (show k<(zs.set k ⟨jb x y.m [],q,d⟩).length by rw[List.length_set];exact H.out.2.1)).2.2.1;have f2:=au.frozen U (k*9+2);have hkm:(k:Int)<(m:Int):=by omega
     have hfz:(f:Int)<(m:Int):=by omega
     have Y4:(0:Int)≤(f:Int):=by omega
     clear U YE YD hl M1;go_wp2;go_roundw
     case rel=>exact⟨k+1,_,by omega,by go_num,HN⟩
     case measure=>simp[RowKit.intOf];omega
   ·rw[decide_eq_false X]at ek
    have HN:Hid (TI w w4 W6 A.heap.size w3.heap.size g B (some ⟨b1,o1,none⟩) n c (xs.map MP.m) S T (k+1) (zs.set k ⟨jb x y.m [],q,d⟩)):=by
     obtain⟨L,R,Xq,D,V⟩:=H.out
     refine Qh (E.out.step L M0.out (E.out.bel.trans (M0.out.below E.out.bel.size (fun b hb=>by
      rcases hb with hb|hb
      ·rw[hb];exact D.1
      ·injection hb with hb;rw[hb];exact D.2.1))) D V Hl.out ?_ ?_ t.out Xb.out)
     ·rw[CJ L (by rw[Xq,Bu.out];exact X)]
      exact pq.out
     ·rw[mP.out,if_neg X]
    clear X;go_wp2;go_roundw
    case rel=>exact⟨k+1,_,by omega,by go_num,HN⟩
    case measure=>simp[RowKit.intOf];omega
  ·have lP:¬((k:Int)<(m:Int)):=by omega
   have P:Hid (zs.map NP.m=nX (xs.map MP.m) S∧aV wr (some ⟨A.heap.size,0,none⟩) (nX (xs.map MP.m) S).length zs∧(nX (xs.map MP.m) S).length=m):=Qh (by
    have hl:=E.out.len;have hkm:k=T.length:=by rw[TE.out];omega
    have e:zs.map NP.m=nX (xs.map MP.m) S:=by
     rw[HTD.out];apply List.ext_getElem
     ·rw[Qi,Qi,hl]
     ·intro i h1 M
      rw[Qi]at h1 M;have:=E.out.done i (by omega);rw[List.getD,Qd h1,List.getD,Qd M]at this
      simpa using this
    have hlen:(nX (xs.map MP.m) S).length=m:=by rw[HTD.out,Qi,TE.out]
    refine⟨e,?_,hlen⟩;have:=E.out.row.nodes (fun x I=>(E.out.BZ x I).1);rw[hl,TE.out]at this
    rw[hlen];exact this)
   go_wp2;go_ret;refine⟨some ⟨A.heap.size,0,none⟩,m,zs,by rw[P.out.2.2];rfl,P.out.1,P.out.2.1,by rw[P.out.2.2];exact Qk _,by unfold maxLen;omega,E.out.bel,fun x I=>?_,fun y hy x I=>?_⟩
   ·cases I
    exact bT.out.size
   ·exact Nat.le_trans mN.out.size ((E.out.BZ y hy).2 x I)
end Tre
namespace p8
open Mk Mem Tre
variable {m:aw}
theorem S7 {g n:Nat} (h:w'.ownsRow B 48 8 (.slice (some ⟨g,0,none⟩) n n) n (madeCells #[.string ⟨#[]⟩,.string ⟨#[]⟩,.int .u8 0,.int .i64 0,.int .i64 0,.int .i64 0,.int .i64 0,.slice none 0 0] (n*8)).toList):Rm w' g (List.replicate n cn):=by
 rcases h.2 with⟨h1,_⟩|⟨g',cap,cur,h1,_,hg,h2,h3,h4,h5⟩
 ·cases h1
 ·cases h1
  refine⟨cur,hg,by rw[List.length_replicate];omega,fun i hi j D=>?_⟩;rw[List.length_replicate]at hi
  have e:(List.replicate n cn).getD i cn=cn:=by
   rw[List.getD,List.getElem?_replicate,if_pos hi];rfl
  have A:cur.toList[8*i+j]? =(madeCells #[Value.string ⟨#[]⟩,.string ⟨#[]⟩,.int .u8 0,.int .i64 0,.int .i64 0,.int .i64 0,.int .i64 0,.slice none 0 0] (n*8)).toList[8*i+j]? :=by
   rw[←h5,List.getElem?_take,if_pos (by omega)]
  rw[e,←Array.getElem?_toList,A,Array.getElem?_toList];unfold madeCells;rw[Array.getElem?_map,Array.getElem?_range,if_pos (by omega)];simp only[Option.map_some];rw[show(8*i+j) % (#[Value.string ⟨#[]⟩,.string ⟨#[]⟩,.int .u8 0,.int .i64 0,.int .i64 0,.int .i64 0,.int .i64 0,.slice none 0 0]:Array Value).size=j by show(8*i+j) % 8=j;omega]
  match j,D with
  |0,_=>rfl
  |1,_=>rfl
  |2,_=>rfl
  |3,_=>rfl
  |4,_=>rfl
  |5,_=>rfl
  |6,_=>rfl
  |7,_=>rfl
theorem AV {g:Nat} {ys:List MP} (h:Rm W g ys) {k j:Nat} (hk:k<ys.length) (hj:j<8) (u:Value) (y:MP) (hy:∀i,i<8→y.cs[i]? =if i=j then some u else(ys.getD k cn).cs[i]?):Rm (W.setCell ⟨g,k*8+j,none⟩ u) g (ys.set k y):=by
 obtain⟨cur,D,hs,hc⟩:=h;refine⟨cur.setIfInBounds (k*8+j) u,ct D _ u,by rw[List.length_set];simpa using hs,fun i hi l hl=>?_⟩;rw[List.length_set]at hi;rw[ox ys k i y hk,Array.getElem?_setIfInBounds]
 by_cases B:i=k
 ·subst B
  rw[if_pos rfl,hy l hl]
  by_cases A:l=j
  ·subst A
   rw[if_pos (by omega),if_pos (by omega),if_pos rfl]
  ·rw[if_neg (by omega),if_neg A,hc i hi l hl]
 ·rw[if_neg B,if_neg (by omega),hc i hi l hl]
theorem S6 {g:Nat} {ys:List MP} {k:Nat} (h:Rm W g (ys.set k ⟨m,p,c⟩)) (hk:k<ys.length) (l:List UInt8):
 Rm ((W.setCell ⟨g,k*8+2,none⟩ (.int .u8 49)).setCell ⟨g,k*8+1,none⟩ (.string (str l))) g (ys.set k ⟨{m with kind:=49,target:=l},p,c⟩):=by
 have B:k<(ys.set k ⟨m,p,c⟩).length:=by rw[List.length_set];exact hk
 have h1:=AV h B (j:=2) (by omega) (.int .u8 49) ⟨{m with kind:=49},p,c⟩ (fun i hi=>by
  rw[ox ys k k _ hk,if_pos rfl]
  match i,hi with
  |0,_=>rfl
  |1,_=>rfl
  |2,_=>rfl
  |3,_=>rfl
  |4,_=>rfl
  |5,_=>rfl
  |6,_=>rfl
  |7,_=>rfl)
 rw[List.set_set]at h1
 have A:=AV h1 (k:=k) (j:=1) (by rw[List.length_set];exact hk) (by omega) (.string (str l)) ⟨{m with kind:=49,target:=l},p,c⟩ (fun i hi=>by
  rw[ox ys k k _ hk,if_pos rfl]
  match i,hi with
  |0,_=>rfl
  |1,_=>rfl
  |2,_=>rfl
  |3,_=>rfl
  |4,_=>rfl
  |5,_=>rfl
  |6,_=>rfl
  |7,_=>rfl)
 rw[List.set_set]at A;exact A
theorem PS {g:Nat} {ys:List MP} {k:Nat} (h:Rm W g (ys.set k ⟨m,p,c⟩)) (hk:k<ys.length) (b:List UInt8) (q:Option Addr) (d:Nat):
 Rm (W.setCell ⟨g,k*8+7,none⟩ (.slice q b.length d)) g (ys.set k ⟨{m with body:=b},q,d⟩):=by
 have A:k<(ys.set k ⟨m,p,c⟩).length:=by rw[List.length_set];exact hk
 have h1:=AV h A (j:=7) (by omega) (.slice q b.length d) ⟨{m with body:=b},q,d⟩ (fun i hi=>by
  rw[ox ys k k _ hk,if_pos rfl]
  match i,hi with
  |0,_=>rfl
  |1,_=>rfl
  |2,_=>rfl
  |3,_=>rfl
  |4,_=>rfl
  |5,_=>rfl
  |6,_=>rfl
  |7,_=>rfl)
 rw[List.set_set]at h1;exact h1
theorem Nx (w:World) (m:aw) (h:m.body=[]):dP w ⟨m,none,0⟩:=by
 refine⟨?_,?_,Nat.zero_le _⟩
 ·show cK w none m.body.length m.body
  rw[h];exact cK.none_ w none
 ·show m.body.length≤0
  rw[h];exact Qk _
structure BD (w w2 w4 wr:World) (M g:Nat) (t:List aC) (os:List (List UInt8)) (n k:Nat) (ys:List MP):Prop where
 bel:Below w2.heap.size w2 wr
 kp:w4.heap.size≤wr.heap.size
 map:dd jo wr M (gr (cQ t os k))
 row:Rm wr g ys
 len:ys.length=n
 done:∀i,i<k→(ys.getD i cn).m=eP t os i
 BZ:∀y∈ys,dP wr y∧∀a,y.p=some a→w4.heap.size≤a.block
section
variable {w w2 w4 wr W':World} {M g n k:Nat} {t:List aC} {os:List (List UInt8)} {ys:List MP}
theorem BD.step (h:BD w w2 w4 wr M g t os n k ys) (hk:k<n) (vD:Kept (sk g (some M)) wr W') (hg:w2.heap.size≤g∧g<w4.heap.size∧w2.heap.size≤M∧M<w4.heap.size)
 {y:MP} (bC:Rm W' g (ys.set k y)) (xG:dd jo W' M (gr (cQ t os (k+1)))) (hy:y.m=eP t os k) (qq:dP W' y) (Wa:∀a,y.p=some a→w4.heap.size≤a.block):
 BD w w2 w4 W' M g t os n (k+1) (ys.set k y):=by
 have E:k<ys.length:=by rw[h.len];exact hk
 refine⟨h.bel.trans (vD.below h.bel.size (fun b hb=>?_)),Nat.le_trans h.kp vD.size,xG,bC,by rw[List.length_set];exact h.len,fun j G=>?_,fun x A=>?_⟩
 ·rcases hb with hb|hb
  ·rw[hb];exact hg.1
  ·injection hb with hb;rw[hb];exact hg.2.2.1
 ·rw[ox ys k j y E]
  by_cases h1:j=k
  ·rw[if_pos h1,h1];exact hy
  ·rw[if_neg h1];exact h.done j (by omega)
 ·rcases List.mem_or_eq_of_mem_set A with A|rfl
  ·obtain⟨h1,B⟩:=h.BZ x A
   refine⟨h1.kept vD (fun _ a D e=>?_),B⟩;have:=B a D;rcases e with e|e
   ·omega
   ·injection e with e;omega
  ·exact⟨qq,Wa⟩
end
theorem O3 {t:List aC} {os:List (List UInt8)} (hg:cG t=true) (ho:cW t os):Wj t os=(dQ t os,0):=by
 unfold Wj;rw[if_pos ((wG hg os).2 ho)]
theorem ZU {t:List aC} {os:List (List UInt8)} (hg:cG t=true) (ho:¬cW t os):Wj t os=([],1):=by
 unfold Wj;rw[if_neg (fun h=>ho ((wG hg os).1 h))]
theorem AA (w:World) (p:Option Addr) (n c:Nat) (xs:List NP) (a:Option Addr) (m d:Nat) (os:List (List UInt8)) (hN:p9 w p n c xs) (hO:Ht w a m d os):
 Calls Tryz.prog 21 #[.slice p n c,.slice a m d] w (p7 w (Wj (xs.map NP.m) os)):=by
 obtain⟨i0,hi,eo,dH,dM⟩:=info_parts An;have HI:=Qh hi;have jr:=Qh eo;have ib:=Qh dH;have js:=Qh dM;have Ae:=@run_makeMap Tryz.prog;have H:=Qh (Cx w p n c xs a m d os hN hO);have Y5:=hN.few;have HG:=Qh hN.Vm;have HO:=Qh hO.at_;have TA:=Qh hN.room;have HXA:=Qh hN.at_.2.1;obtain⟨t,ht⟩:∃t,xs.map NP.m=t:=⟨_,rfl⟩
 have HT:=Qh ht;unfold Hq at H;rw[ht]at H HG⊢;clear hi eo dH dM hN hO ht
 go_enter Tryz.func21,Tryz.ntmps21
 go_wp2_with fail
 refine H.out.mono ?_;rintro e A (⟨q,zs,rfl,htk,hzl,hol,tO,Oy,bY⟩|⟨rfl,vH,bY⟩)
 ·have HTK:=Qh htk
  have Xg:=Qh hzl;have QB:=Qh hol;have mP:=Qh tO;have UJ:=Qh Oy;have bT:=Qh bY;clear htk hzl hol tO Oy bY H
  go_wp2_with (at_make;refine wpList_make_full _ rfl _ _ 38 rfl A.heap.size 48 i0 _ 8 Tryz.underlying38 HI.out jr.out ib.out .i64 .i64 _ _ n rfl rfl rfl rfl (by rw[js.out];omega) (by unfold maxLen;omega) (Qk _) ?_)
  intro w3 nr aS;have QS:Rm w3 A.heap.size (List.replicate n cn):=S7 (B:=A.heap.size) nr;have dt:Kept ai A w3:=(Kept.refl ai A).grown aS (fun k h=>by cases h);have eN:Below A.heap.size A w3:=dt.below (Qk _) (fun _ h=>h.elim)
  have ag1:A.heap.size<w3.heap.size:=by
   obtain⟨cur,hc,_⟩:=QS;exact hc.lt
  obtain⟨w4,qv⟩:∃w4,w3.alloc (.map #[] 0)=w4:=⟨_,rfl⟩
  have gY:Below w3.heap.size w3 w4:=by rw[←qv];exact(Below.refl _ _).alloc (Qk _) _
  have R9:dd jo w4 w3.heap.size (fun _=>none):=by rw[←qv];exact jU jo w3
  have Se:w4.heap.size=w3.heap.size+1:=by rw[←qv];simp
  have Tu:Hid (BD w A w4 w4 w3.heap.size A.heap.size t os n 0 (List.replicate n cn)):=Qh
   {bel:=eN.trans (gY.mono eN.size)
    kp:=Qk _
    map:=by
     have e:gr (cQ t os 0)=fun _=>none:=by funext l;rfl
     rw[e];exact R9
    row:=wS QS gY
    len:=by simp
    done:=fun i hi=>by omega
    BZ:=fun y hy=>by
     rw[(List.mem_replicate.1 hy).2]
     exact⟨Nx _ Up rfl,fun a h=>by cases h⟩}
  have N:Hid (A.heap.size≤A.heap.size∧A.heap.size<w4.heap.size∧A.heap.size≤w3.heap.size∧w3.heap.size<w4.heap.size):=Qh ⟨Qk _,by omega,by omega,by omega⟩;obtain⟨M,hM⟩:∃M,w3.heap.size=M:=⟨_,rfl⟩
  rw[hM]at Tu N;clear nr aS QS dt eN gY R9 Se ag1;go_upto_region 6 with fail;clear qv Ae hM;go_wp2_with fail
  go_loopw [10,11,12,13,28] (fun _ _ _ _ i wr=>∃(k:Nat) (ys:List MP),k≤n∧i=.int .i64 (k:Int)∧Hid (BD w A w4 wr M A.heap.size t os n k ys)) (fun _ _ _ _ i _=>n - (RowKit.intOf i).toNat)
  case atStart=>exact⟨0,_,Nat.zero_le _,rfl,Tu⟩
  case round=>
   obtain⟨k,ys,hk,rfl,G⟩:=hrel
   by_cases Y:k<n
   ·have pb:k<ys.length:=by rw[G.out.len];exact Y
    obtain⟨b1,o1,rfl,ck,mK,hc⟩:=(mP.out.below G.out.bel).dF Y;have eO:=si HTK.out Y;obtain⟨v,hv⟩:∃v,zs.getD k aD=v:=⟨_,rfl⟩
    rw[hv]at mK hc eO;have jP:v∈xs:=List.mem_of_find?_eq_some eO
    have hnd:nodeAt t (os.getD k [])=v.m:=by
     unfold nodeAt;rw[←HT.out,←rG,eO];rfl
    have o9:=gq HG.out (x:=v.m) (by rw[←HT.out];exact List.mem_map.2 ⟨v,jP,rfl⟩);have T8:=TA.out v jP;have HXB:=Qh (HXA.out v jP);obtain⟨c0,c1,c2,c3,c4,c5,c6,c7,c8⟩:=hc;obtain⟨W5,pC⟩:∃W5,wr.alloc (.cells v.cs 52)=W5:=⟨_,rfl⟩
    have xr:Below wr.heap.size wr W5:=by rw[←pC];exact(Below.refl _ _).alloc (Qk _) _
    have O:au W5 wr.heap.size 52 v.cs:=by rw[←pC];exact au.new wr _ _
    have hM5:=G.out.map.kept (Kept.aO xr ai) (fun h=>h.elim);have J:=wS G.out.row xr;have hgw:A.heap.size<wr.heap.size:=by have h1:=N.out.2.1;have U:=G.out.kp;omega
    have HGW:=Qh hgw;unfold NP.cs gB at pC;have ek:=CA v.m.kind 48 48 rfl;obtain⟨kn,cu⟩:∃kn:Int,(v.m.kind.toNat:Int)=kn:=⟨_,rfl⟩
    have gV:=Qh cu;have z0:=O.cell 0;have z1:=O.cell 1;have z3:=O.cell 3;have z4:=O.cell 4;have z5:=O.cell 5;have z6:=O.cell 6;have z7:=O.cell 7;simp only[NP.cs,gB,Qc,Qa,Qb]at z0 z1 z3 z4 z5 z6 z7;rw[cu]at pC c3 z3 ek;obtain⟨r0,r1,r2,r3,r4,r5,r6,r7⟩:=J.kU pb
    have D:∀i,W5.frozen? ⟨A.heap.size,i,none⟩=false:=fun i=>by
     obtain⟨cur,hc,_⟩:=J;exact hc.frozen i
    have f0:=D (k*8);have f1:=D (k*8+1);have f2:=D (k*8+2);have f3:=D (k*8+3);have f4:=D (k*8+4);have f5:=D (k*8+5);have f6:=D (k*8+6);have f7:=D (k*8+7);have o4:=Qh xr;have HBN:=Qh O;have gW:=Qh hM5;have yh:=Qh J;have R:=Qh hnd;have HGD:=Qh o9;have TC:=Qh T8;have o5:=Qh mK;have UE:=Qh pb;have j5:(k:Int)<(n:Int):=by omega
    clear pb ck mK eO hv jP hnd o9 T8 xr O hM5 J hgw cu D;go_upto_region 9 with fail;clear pC c0 c1 c2 c3 c4 c5 c6 c7 c8;go_upto_region 10 with fail;obtain⟨W6,Im⟩:∃W6,((((((((W5.setCell ⟨A.heap.size,k*8,none⟩ (.string (str v.m.path))).setCell ⟨A.heap.size,k*8+1,none⟩ (.string (str v.m.target))).setCell ⟨A.heap.size,k*8+2,none⟩ (.int .u8 kn)).setCell ⟨A.heap.size,k*8+3,none⟩ (.int .i64 v.m.mode)).setCell ⟨A.heap.size,k*8+4,none⟩ (.int .i64 v.m.uid)).setCell ⟨A.heap.size,k*8+5,none⟩ (.int .i64 v.m.gid)).setCell ⟨A.heap.size,k*8+6,none⟩ (.int .i64 v.m.time)).setCell ⟨A.heap.size,k*8+7,none⟩ (.slice none 0 0))=W6:=⟨_,rfl⟩
    obtain⟨mv,W⟩:∃mv:aw,(⟨v.m.path,v.m.target,v.m.kind,v.m.mode,v.m.uid,v.m.gid,v.m.time,[]⟩:aw)=mv:=⟨_,rfl⟩
    have X:SY W5 A.heap.size (k*8) ⟨mv,none,0⟩=W6:=by
     rw[←Im,←W,←gV.out];rfl
    have Bl:Rm W6 A.heap.size (ys.set k ⟨mv,none,0⟩):=by rw[←X];exact yh.out.set UE.out ⟨mv,none,0⟩
    have R0:Kept (ay A.heap.size) W5 W6:=by rw[←X];exact LQ (S:=ay A.heap.size) rfl _
    have VK:A.heap.size≠M:=by
     obtain⟨cur,hc,_⟩:=yh.out;exact na hc gW.out
    have xt:Kept (sk A.heap.size (some M)) wr W6:=(Kept.aO o4.out _).trans (R0.mono (fun b h=>.inl h));have L:au W6 wr.heap.size 52 v.cs:=HBN.out.bV R0 (fun e=>by have h1:=HGW.out;have U:wr.heap.size=A.heap.size:=e;omega);have T2:dd jo W6 M (gr (cQ t os k)):=gW.out.kept R0 (fun e=>VK (show M=A.heap.size from e).symm);have I:=Qh W;have u:=Qh Bl;have MZ:=Qh xt;have HN6:=Qh L;have pq:=Qh T2;have UA:=Qh VK;have y2:W6.cell? ⟨wr.heap.size,2,none⟩=some (.string (str v.m.ag)):=L.cell 2;have y3:W6.cell? ⟨wr.heap.size,3,none⟩=some (.int .u8 kn):=by rw[←gV.out];exact L.cell 3
    rw[Im];clear Im X Bl R0 xt L T2 VK W r0 r1 r2 r3 r4 r5 r6 r7 f0 f1 f2 f3 f4 f5 f6 f7 z0 z1 z3 z4 z5 z6 z7;have hBZ:mv.body=[]:=by rw[←I.out]
    have o:=Qh hBZ;clear hBZ
    by_cases T:v.m.kind=48
    ·rw[decide_eq_true T,Bool.not_true]at ek
     have Tq:Hid ((nodeAt t (os.getD k [])).kind=48):=Qh (by rw[R.out];exact T);have g:=pq.out.look_ok (P:=Tryz.prog) Tryz.underlying99 Tryz.underlying9 (z:=.int .i64 0) (fun w=>Tryz.zeroValue3 w) v.m.ag;obtain⟨fo,xE⟩:∃fo,cQ t os k v.m.ag=fo:=⟨_,rfl⟩
     have zE:Hid (cQ t os k (nodeAt t (os.getD k [])).ag=fo):=Qh (by rw[R.out];exact xE);unfold gr at g;rw[xE]at g;clear T xE
     cases fo with
     |some f=>
      have Wi:(Instr.lookup 99 (.map (some M)) (.string (str v.m.ag)) true).run Tryz.prog W6=.ok (.tuple #[.int .i64 (f:Int),.bool true]) W6:=g;have hfk:f<k:=Cb zE.out;have R8:m=n:=by rw[←HO.out.1,QB.out]
      have YP:Below A.heap.size A W6:=G.out.bel.trans (MZ.out.below G.out.bel.size (fun b hb=>by
       rcases hb with hb|hb
       ·rw[hb];exact Qk _
       ·injection hb with hb;rw[hb];exact N.out.2.2.1))
      obtain⟨b3,o3,rfl,eN,Ci⟩:=((HO.out.below bT.out).below YP).2 (by omega);have q0:=Ci f (by omega);obtain⟨s,hs⟩:∃s,os.getD f []=s:=⟨_,rfl⟩
      rw[hs]at q0;have HS:=Qh hs;have Ou:k<(ys.set k ⟨mv,none,0⟩).length:=by rw[List.length_set];exact UE.out
      obtain⟨r0,r1,r2,r3,r4,r5,r6,r7⟩:=u.out.kU Ou
      have D:∀i,W6.frozen? ⟨A.heap.size,i,none⟩=false:=fun i=>by
       obtain⟨cur,hc,_⟩:=u.out;exact hc.frozen i
      have f1:=D (k*8+1);have f2:=D (k*8+2);have al8:(0:Int)≤(f:Int):=by omega
      have al9:(f:Int)<(m:Int):=by omega
      clear g hfk R8 YP eN Ci hs Ou D r0 r3 r4 r5 r6 r7;go_upto_region 16 with fail;obtain⟨W7,MN⟩:∃W7,(W6.setCell ⟨A.heap.size,k*8+2,none⟩ (.int .u8 49)).setCell ⟨A.heap.size,k*8+1,none⟩ (.string (str s))=W7:=⟨_,rfl⟩
      have tP:Rm W7 A.heap.size (ys.set k ⟨{mv with kind:=49,target:=s},none,0⟩):=by rw[←MN];exact S6 u.out UE.out s
      have V:Kept (ay A.heap.size) W6 W7:=by rw[←MN];exact((Kept.refl (ay A.heap.size) W6).setCell (a:=⟨A.heap.size,k*8+2,none⟩) (.inr rfl) _).setCell (a:=⟨A.heap.size,k*8+1,none⟩) (.inr rfl) _
      have r:Hid (BD w A w4 W7 M A.heap.size t os n (k+1) (ys.set k ⟨{mv with kind:=49,target:=s},none,0⟩)):=Qh
       (G.out.step Y (MZ.out.trans (V.mono (fun b h=>.inl h))) N.out tP (by
        rw[Kv zE.out]
        exact pq.out.kept V (fun e=>UA.out (show M=A.heap.size from e).symm))
        (by rw[SI Tq.out zE.out,R.out,HS.out,←I.out];rfl) (Nx _ _ o.out) (fun a h=>by cases h))
      rw[MN];clear MN tP V r1 r2 f1 f2;go_wp2;go_roundw
      case rel=>exact⟨k+1,_,by omega,by go_num,r⟩
      case measure=>simp[RowKit.intOf];omega
     |none=>
      have Wi:(Instr.lookup 99 (.map (some M)) (.string (str v.m.ag)) true).run Tryz.prog W6=.ok (.tuple #[.int .i64 0,.bool false]) W6:=g;clear g
      go_wp2_with (at_mapUpdate;refine dB (K:=jo) rfl (.tmp 68) (.tmp 70) (.tmp 71) rfl Tryz.underlying99 Tryz.underlying9 M pq.out rfl v.m.ag rfl (.int .i64 (k:Int)) rfl ?_)
      intro w7 uh V Sc
      have T3:dd jo w7 M (gr (cQ t os (k+1))):=by
       have e:gr (cQ t os (k+1))=fun z=>if z=v.m.ag then some (.int .i64 (k:Int))else gr (cQ t os k) z:=by
        funext z
        unfold gr;rw[Ku Tq.out zE.out,R.out]
        by_cases h:z=v.m.ag<;>simp[h]
       rw[e];exact uh.out
      have VR:Kept (sk A.heap.size (some M)) wr w7:=MZ.out.trans (V.out.mono (fun b h=>.inr (by rw[show b=M from h])))
      have YQ:Below A.heap.size A w7:=G.out.bel.trans (VR.below G.out.bel.size (fun b hb=>by
       rcases hb with hb|hb
       ·rw[hb];exact Qk _
       ·injection hb with hb;rw[hb];exact N.out.2.2.1))
      have hn7:au w7 wr.heap.size 52 v.cs:=HN6.out.bV V.out (fun e=>by have h1:=N.out.2.2.2;have U:wr.heap.size=M:=e;have Z:=G.out.kp;omega)
      have tP:Rm w7 A.heap.size (ys.set k ⟨mv,none,0⟩):=by
       obtain⟨cur,hc,U,Z⟩:=u.out;exact⟨cur,hc.bV V.out UA.out,U,Z⟩
      have TX:=lx v.p v.m.body.length v.c v.m.body w7 ((HXB.out.below bT.out).below YQ).gC rfl TC.out.2.2.2;have y8:w7.cell? ⟨wr.heap.size,8,none⟩=some (.slice v.p v.m.body.length v.c):=hn7.cell 8;have X1:=Qh T3;have XZ:=Qh VR;have DW:=Qh tP;have Q4:=Qh TX;clear uh V Sc T3 VR YQ hn7 tP TX y2 y3 Wi;go_wp2_with fail;refine Q4.out.mono ?_;rintro e w8 ⟨q8,d8,rfl,hle,Ov,o8,FD,TS⟩;have Cv:=wS DW.out TS;have Ou:k<(ys.set k ⟨mv,none,0⟩).length:=by rw[List.length_set];exact UE.out
      obtain⟨r0,r1,r2,r3,r4,r5,r6,r7⟩:=Cv.kU Ou
      have f7:w8.frozen? ⟨A.heap.size,k*8+7,none⟩=false:=by
       obtain⟨cur,hc,_⟩:=Cv;exact hc.frozen _
      have ah4:=XZ.out.size
      have ZA:∀x,q8=some x→w4.heap.size≤x.block:=fun x hx=>by
       have h1:=FD x hx;have U:=G.out.kp;omega
      have r:Hid (BD w A w4 (w8.setCell ⟨A.heap.size,k*8+7,none⟩ (.slice q8 v.m.body.length d8)) M A.heap.size t os n (k+1) (ys.set k ⟨{mv with body:=v.m.body},q8,d8⟩)):=by
       have lP:Kept (ay A.heap.size) w8 (w8.setCell ⟨A.heap.size,k*8+7,none⟩ (.slice q8 v.m.body.length d8)):=(Kept.refl (ay A.heap.size) w8).setCell (a:=⟨A.heap.size,k*8+7,none⟩) (.inr rfl) _
       refine Qh (G.out.step Y ((XZ.out.trans (Kept.aO TS _)).trans (lP.mono (fun b h=>.inl h))) N.out (PS Cv UE.out v.m.body q8 d8)
        ((X1.out.kept (Kept.aO TS ai) (fun h=>h.elim)).kept lP (fun e=>UA.out (show M=A.heap.size from e).symm))
        (by rw[SH Tq.out zE.out,R.out,←I.out];rfl) ⟨o8.kept lP (fun _ x hx e=>?_),hle,Ov⟩ ZA)
       have h1:=ZA x hx;have U:=N.out.2.1;have Z:x.block=A.heap.size:=e;omega
      clear hle Ov o8 FD TS Cv Ou ah4 ZA r0 r1 r2 r3 r4 r5 r6;go_wp2;go_roundw
      case rel=>exact⟨k+1,_,by omega,by go_num,r⟩
      case measure=>simp[RowKit.intOf];omega
    ·rw[decide_eq_false T,Bool.not_false]at ek
     have r:Hid (BD w A w4 W6 M A.heap.size t os n (k+1) (ys.set k ⟨mv,none,0⟩)):=Qh
      (G.out.step Y MZ.out N.out u.out (by rw[Cc (by rw[R.out];exact T)];exact pq.out)
       (by
        rw[Lj (by rw[R.out];exact T),R.out,←I.out];unfold aC.mem
        rw[ET HGD.out.2.1 T]) (Nx _ _ o.out) (fun a h=>by cases h))
     clear T;go_wp2;go_roundw
     case rel=>exact⟨k+1,_,by omega,by go_num,r⟩
     case measure=>simp[RowKit.intOf];omega
   ·obtain rfl:k=n:=by omega
    have lP:¬((k:Int)<(k:Int)):=by omega
    have F:Hid (p7 w (dQ t os,0) (.returned (.tuple #[.slice (some ⟨A.heap.size,0,none⟩) k k,.int .i64 0])) wr):=Qh (by
     have hl:(dQ t os).length=k:=by rw[pG UJ.out,QB.out]
     have hm:ys.map MP.m=dQ t os:=by
      apply List.ext_getElem
      ·rw[Qi,G.out.len,hl]
      ·intro i h1 U
       rw[Qi]at h1;have Z:=G.out.done i (by rw[←G.out.len];exact h1);have h4:=ml UJ.out (show i<os.length by rw[QB.out,←G.out.len];exact h1);rw[RQ h1]at Z;rw[List.getElem_map,Z,←h4,List.getD,Qd U];rfl
     have Ae:=G.out.row.ah7 (fun y hy=>(G.out.BZ y hy).1);rw[G.out.len]at Ae
     refine⟨some ⟨A.heap.size,0,none⟩,k,ys,by rw[hl],hm,by rw[hl];exact Ae,by rw[hl];exact Qk _,by unfold maxLen;omega,bT.out.trans (G.out.bel.mono bT.out.size)⟩)
    have E:Hid (Wj t os=(dQ t os,0)):=Qh (O3 HG.out UJ.out);go_wp2;go_ret2;rw[E.out];exact F.out
 ·have E:Hid (Wj t os=([],1)):=Qh (ZU HG.out vH)
  have HB:=Qh bY;clear vH bY;go_wp2;go_ret2;unfold p7;rw[E.out];exact⟨none,0,[],rfl,rfl,wh _ _,Qk _,by decide,HB.out⟩
end p8
namespace Tre
open Mk Mem
def uA (w:World) (ms:List aw) (e:Ending) (w':World):Prop:=
 ∃q d zs,e=.returned (.tuple #[.slice q (iX ms).1.length d,.agg #[.int .i64 (iX ms).2.1,.int .i64 ((iX ms).2.2:Int)]])∧zs.map NP.m=(iX ms).1∧aV w' q (iX ms).1.length zs∧(iX ms).1.length≤d∧d≤maxLen∧Below w.heap.size w w'∧(∀x,q=some x→w.heap.size≤x.block)∧(∀y∈zs,∀x,y.p=some x→w.heap.size≤x.block)
theorem yA {ms:List aw} {e i:Int} {k:Nat} (h:iX ms=([],e,k)) (hb:Below w.heap.size w w') (hi:i=(k:Int)):uA w ms (.returned (.tuple #[.slice none 0 0,.agg #[.int .i64 e,.int .i64 i]])) w':=
 ⟨none,0,[],by rw[h,hi];rfl,by rw[h];rfl,by rw[h];exact rR _ _,by rw[h];exact Qk _,by decide,hb,(fun x A=>by cases A),(fun y hy=>by cases hy)⟩
theorem Mr (p:Option Addr) (n c:Nat) (xs:List MP) (w:World) (hM:dD w p n xs) (hn:n≤1000000) (hF:Tp xs) (hR:∀x∈xs,x.m.body.length≤140737488351232) (hT:Path.Tabs w):
 Calls Tryz.prog 26 #[.slice p n c] w (uA w (xs.map MP.m)):=by
 obtain⟨W,hW⟩:∃W,w.alloc (.cells #[.int .i64 0,.int .i64 0] 32)=W:=⟨_,rfl⟩
 have rf:Below w.heap.size w W:=by rw[←hW];exact(Below.refl _ _).alloc (Qk _) _
 have YK:au W w.heap.size 32 #[.int .i64 0,.int .i64 0]:=by rw[←hW];exact au.new w _ _
 have I:=Qh (rL p n c xs W (hM.below rf) (by omega) hF (hT.below rf));have HM:=Qh hM;have T:=Qh hM.1;have HF:=Qh hF;have HR:=Qh hR;have iU:=Qh rf;have pS:=Qh YK;obtain⟨bo,YV⟩:∃bo,kA (xs.map MP.m)=bo:=⟨_,rfl⟩
 rw[YV]at I;have H:=Qh YV;clear hM hF hR hT rf YK YV
 go_enter Tryz.func26,Tryz.ntmps26
 go_upto_region 1 with fail
 clear hW;go_wp2_with fail;refine I.out.mono ?_;rintro e w1 ⟨rfl,ck⟩;have cr:=Qh (iU.out.trans (ck.mono iU.out.size));have O:=pS.out.below ck pS.out.lt;have z:=Qh O;have x0:=O.cell 0;have N:=O.cell 1;have f0:=O.frozen 0;have f1:=O.frozen 1;simp only[Qc,Qa,Qb]at x0 N;clear ck O I
 cases bo with
 |some i=>
  have Cp:(0:Int)≤(i:Int):=by omega
  simp only[Wf];go_wp2;refine bodyPost_ret (wQ rfl _ _ w.heap.size _ rfl rfl 1 (i:Int) (qe z.out _ _)) rfl ?_;exact yA (KB H.out) ((cr.out.setCell (p:=⟨w.heap.size,0,none⟩) (Qk _) _).setCell (p:=⟨w.heap.size,1,none⟩) (Qk _) _) rfl
 |none=>
  simp only[Wf];clear x0 N f0 f1;have X3:=Qh (F7 p n c w1);go_wp2_with fail;refine X3.out.mono ?_;rintro e w2 ⟨g,B,rfl,hL,hg,hB,bY⟩;have bT:=Qh (cr.out.trans (bY.mono cr.out.size));have fX:=Qh (z.out.below bY z.out.lt);have Uy:=Qh (And.intro hg hB);have xx:=Qh hL;have UF:Hid (w.heap.size<w1.heap.size):=Qh z.out.lt;clear hL hg hB bY X3;go_wp2_with fail
  go_loopw [6,17] (fun _ i wr=>∃(k:Nat) (S:St),k≤n∧i=.int .i64 (k:Int)∧Hid (fA (xs.map MP.m) k=.ok S)∧Hid (mV wr g B p n c (look S))∧Hid (Below w.heap.size w wr)∧Hid (au wr w.heap.size 32 #[.int .i64 0,.int .i64 0])) (fun _ i _=>n - (RowKit.intOf i).toNat)
  case atStart=>exact⟨0,[],Nat.zero_le _,rfl,Qh rfl,Qh xx.out,bT,fX⟩
  case round=>
   obtain⟨k,S,hk,rfl,hS,V,J,D⟩:=hrel
   by_cases ao:k<n
   ·have eV:k<(xs.map MP.m).length:=by rw[Qi,T.out];exact ao
    have hIn:=vN (xs.map MP.m) k S (by omega) hS.out;rw[Qi,T.out]at hIn;have f:=Qh (Ar w g B p n c xs S k wr HM.out J.out (by have:=Uy.out.2;have:=UF.out;omega) (by omega) ao hIn V.out);have j5:(k:Int)<(n:Int):=by omega
    have gV:Hid ((xs.map MP.m).length=k+1+(n - (k+1))):=Qh (by rw[Qi,T.out];omega);unfold Hr at f;obtain⟨lo,D5⟩:∃lo,kZ (xs.map MP.m) S k=lo:=⟨_,rfl⟩
    rw[D5]at f;have Js:=Qh D5;clear eV hIn D5;go_wp2_with fail;refine f.out.mono ?_;rintro e w3 ⟨rfl,U,dt⟩;have cX:w.heap.size≠B:=by have:=Uy.out.2;have:=UF.out;omega
    have TP:Below w.heap.size w w3:=J.out.trans (dt.below J.out.size (fun b r=>by rw[show b=B from r];have:=Uy.out.2;have:=UF.out;omega));have A:=D.out.bV dt (show ¬ay B w.heap.size from cX);have l:=Qh TP;have u:=Qh A;have HL3:=Qh U;have x0:=A.cell 0;have N:=A.cell 1;have f0:=A.frozen 0;have f1:=A.frozen 1;simp only[Qc,Qa,Qb]at x0 N;clear U dt cX TP A f
    cases lo with
    |none=>
     have E:=Qh (Fj H.out (by rw[gV.out];exact vO (FP hS.out Js.out) _));go_wp2;refine bodyPost_ret (wQ rfl _ _ w.heap.size _ rfl rfl 7 (k:Int) (qe u.out _ _)) rfl ?_;exact yA E.out ((l.out.setCell (p:=⟨w.heap.size,0,none⟩) (Qk _) _).setCell (p:=⟨w.heap.size,1,none⟩) (Qk _) _) rfl
    |some S'=>
     have US:=Qh (vP hS.out Js.out);clear x0 N f0 f1;go_wp2;go_roundw
     case rel=>exact⟨k+1,S',by omega,by go_num,US,HL3,l,u⟩
     case measure=>simp[RowKit.intOf];omega
   ·have lP:¬((k:Int)<(n:Int)):=by omega
    have cu:k=n:=by omega
    have Ad:(xs.map MP.m).length=n:=by rw[Qi,T.out]
    have L:fA (xs.map MP.m) (xs.map MP.m).length=.ok S:=by rw[Ad,←cu];exact hS.out
    have Af:=CE _ _ _ hS.out;have E:=Qh (Cd H.out L)
    have HTR:=Qh (Qp g B p n c xs S wr (HM.out.below J.out) (by omega) V.out (sZ _ _ _ hS.out) (by have:=vN _ _ S (Qk _) L;rwa [Ad]at this) (Nat.le_trans Af.len (by omega)) (fun e he=>by
     obtain⟨j,hj,e2⟩:=Af.from_ e he;rw[e2,j3];have:=(HF.out _ (lA xs j (by rw[T.out];omega))).1;unfold maxLen
     omega) HR.out)
    clear cu Ad L Af;go_wp2_with fail;refine HTR.out.mono ?_;rintro e w3 ⟨q,d,zs,rfl,t,R,hd,Z,eN,X,hy⟩;have l:=Qh (J.out.trans (eN.mono J.out.size));have A:=D.out.below eN D.out.lt;have u:=Qh A;have im:=Qh (And.intro J.out.size D.out.lt);have P:=Qh (And.intro t (And.intro R (And.intro hd (And.intro Z (And.intro X hy)))));have x0:=A.cell 0;have N:=A.cell 1;have f0:=A.frozen 0;have f1:=A.frozen 1;simp only[Qc,Qa,Qb]at x0 N;clear t R hd Z eN X hy A;go_wp2;refine bodyPost_ret (wQ rfl _ _ w.heap.size _ rfl rfl 0 0 (qe u.out _ _)) rfl ?_;have hbf:=(l.out.setCell (p:=⟨w.heap.size,0,none⟩) (Qk _) (.int .i64 0)).setCell (p:=⟨w.heap.size,1,none⟩) (Qk _) (.int .i64 0);have M:Kept (ay w.heap.size) w3 ((w3.setCell ⟨w.heap.size,0,none⟩ (.int .i64 0)).setCell ⟨w.heap.size,1,none⟩ (.int .i64 0)):=((Kept.refl (ay w.heap.size) w3).setCell (a:=⟨w.heap.size,0,none⟩) (.inr rfl) _).setCell (a:=⟨w.heap.size,1,none⟩) (.inr rfl) _;obtain⟨t,R,hd,Z,X,hy⟩:=P.out;obtain⟨qu,yJ⟩:=im.out;refine⟨q,d,zs,by rw[E.out];rfl,by rw[E.out];exact t,?_,by rw[E.out];exact hd,Z,hbf,fun x Y=>Nat.le_trans qu (X x Y),fun y G x Y=>Nat.le_trans qu (hy y G x Y)⟩;rw[E.out];refine⟨R.1,fun y G=>(R.2.1 y G).kept M (fun _ x Y h=>by have h1:=hy y G x Y;have h2:x.block=w.heap.size:=h;omega),fun h0=>?_⟩;obtain⟨b,o,r,iN,hc⟩:=R.2.2 h0;refine⟨b,o,r,Nat.lt_of_lt_of_le iN M.size,fun i hi j hj=>?_⟩;rw[World.cell?_of_block (M.block b iN (fun h=>by have h1:=X _ r;have h2:b=w.heap.size:=h;simp only at h1;omega))];exact hc i hi j hj
end Tre
namespace Ea
open Rec Mem Tre p8 Wr
attribute [local irreducible] wpQuiet
theorem S8 {g:Nat} (h:w'.ownsRow B 9 1 (.slice (some ⟨g,0,none⟩) n n) n (madeCells #[.string ⟨#[]⟩] n).toList):Rs w' g (List.replicate n []):=by
 rcases h.2 with⟨h1,_⟩|⟨g',cap,cur,h1,_,hg,h2,h3,h4,h5⟩
 ·cases h1
 ·cases h1
  refine⟨cur,hg,by rw[List.length_replicate];omega,fun i hi=>?_⟩;rw[List.length_replicate]at hi
  have A:cur.toList[i]? =(madeCells #[Value.string ⟨#[]⟩] n).toList[i]? :=by
   rw[←h5,List.getElem?_take,if_pos (by omega)]
  rw[←Array.getElem?_toList,A,toList_madeCells_one,List.getElem?_replicate,if_pos (by omega),List.getD,List.getElem?_replicate,if_pos hi];rfl
theorem Jc {fn:Func} (hf:fn.results=#[.tmp 4,.cell 5 32]) (tmps:Array Value) (w:World) (g:Nat) (v:Value) (ht:tmps.getD 5 undef=.pointer (some ⟨g,0,none⟩)) (hv:tmps.getD 4 undef=v)
 (a b:Int) (hb:au w g 32 #[.int .i64 a,.int .i64 b]):(results fn tmps).run Tryz.prog w=.ok (.tuple #[v,.agg #[.int .i64 a,.int .i64 b]]) w:=by
 have c0:=hb.cell 0;have c1:=hb.cell 1;simp only[Qc,Qa,Qb]at c0 c1;clear hb;have hl:(loadVar 32 ⟨g,0,none⟩).run Tryz.prog w=.ok (.agg #[.int .i64 a,.int .i64 b]) w:=by go_simp
 have B:tmps[5]?.getD undef=.pointer (some ⟨g,0,none⟩):=by simpa using ht
 have A:tmps[4]?.getD undef=v:=by simpa using hv
 simp only[results,hf];simp[Result.andThen,B,A,asAddr,hl]
theorem Fb (w:World) (p:Option Addr) (n c:Nat) (xs:List NP) (hM:aV w p n xs) (hn:n≤4096):
 Calls Tryz.prog 22 #[.slice p n c] w fun e w'=>∃g,e=.returned (.slice (some ⟨g,0,none⟩) n n)∧Rs w' g (jm (xs.map NP.m))∧Below w.heap.size w w':=by
 obtain⟨i0,hi,l,b,d⟩:=info_parts Ap;have HI:=Qh hi;have jr:=Qh l;have ib:=Qh b;have js:=Qh d;have HM:=Qh hM;have N:=Qh hM.1;clear hi l b d hM
 go_enter Tryz.func22,Tryz.ntmps22
 go_wp2_with (at_make;refine wpList_make_full _ rfl _ _ 55 rfl w.heap.size 9 i0 _ 1 Tryz.underlying55 HI.out jr.out ib.out .i64 .i64 _ _ n rfl rfl rfl rfl (by rw[js.out];omega) (by unfold maxLen;omega) (Qk _) ?_)
 intro w2 r W;have E:=S8 (B:=w.heap.size) r;have f:Kept ai w w2:=(Kept.refl ai w).grown W (fun k h=>by cases h);have Z:Below w.heap.size w w2:=f.below (Qk _) (fun _ h=>h.elim);have Y:=Qh Z;have z:=Qh E;obtain⟨gg,O⟩:∃gg,w.heap.size=gg:=⟨_,rfl⟩
 have T:=Qh O;rw[O]at z Y⊢;clear r W E f Z O;go_wp2_with fail
 go_loopw [4,5,11] (fun _ _ i wr=>∃(k:Nat) (A:List (List UInt8)),k≤n∧i=.int .i64 (k:Int)∧Hid (A.length=n)∧Hid (∀j,j<k→A.getD j []=(xs.getD j aD).m.path)∧Hid (Rs wr gg A)∧Hid (Below gg w wr)) (fun _ _ i _=>n - (RowKit.intOf i).toNat)
 case atStart=>exact⟨0,_,Nat.zero_le _,rfl,Qh (by simp),Qh (fun j h=>by omega),z,Y⟩
 case round=>
  obtain⟨k,A,hk,rfl,G,D,E,I⟩:=hrel
  by_cases X:k<n
  ·obtain⟨b1,o1,rfl,ck,mK,hc⟩:=(HM.out.below (by rw[T.out];exact I.out)).dF X
   obtain⟨y,hy⟩:∃y,xs.getD k aD=y:=⟨_,rfl⟩
   rw[hy]at hc;have HY:=Qh hy;obtain⟨c0,c1,c2,c3,c4,c5,c6,c7,c8⟩:=hc;obtain⟨W5,J⟩:∃W5,wr.alloc (.cells y.cs 52)=W5:=⟨_,rfl⟩
   have V:Below wr.heap.size wr W5:=by rw[←J];exact(Below.refl _ _).alloc (Qk _) _
   have u:au W5 wr.heap.size 52 y.cs:=by rw[←J];exact au.new wr _ _
   have L:=PX E.out V;have H:k<A.length:=by rw[G.out];exact X
   obtain⟨r0,f0⟩:=L.at H;have z0:=u.cell 0;unfold NP.cs gB at J;simp only[NP.cs,gB,Qc,Qa]at z0;have UG:Hid (Rs (W5.setCell ⟨gg,k,none⟩ (.string (str y.m.path))) gg (A.set k y.m.path)):=Qh (L.set H y.m.path);have o4:Hid (Below gg w (W5.setCell ⟨gg,k,none⟩ (.string (str y.m.path)))):=Qh ((I.out.trans (V.mono (by rw[←T.out];exact I.out.size))).setCell (p:=⟨gg,k,none⟩) (Qk _) _)
   have M:Hid (∀j,j<k+1→(A.set k y.m.path).getD j []=(xs.getD j aD).m.path):=Qh (fun j hj=>by
    rw[Ii A k j _ H]
    by_cases R:j=k
    ·rw[if_pos R,R,HY.out]
    ·rw[if_neg R];exact D.out j (by omega))
   have j5:(k:Int)<(n:Int):=by omega
   clear hy ck mK V u L H;go_upto_region 5 with fail;clear J c0 c1 c2 c3 c4 c5 c6 c7 c8;go_wp2;go_roundw
   case rel=>exact⟨k+1,_,by omega,by go_num,Qh (by rw[List.length_set];exact G.out),M,UG,o4⟩
   case measure=>simp[RowKit.intOf];omega
  ·obtain rfl:k=n:=by omega
   have lP:¬((k:Int)<(k:Int)):=by omega
   have uj:A=jm (xs.map NP.m):=by
    apply List.ext_getElem
    ·rw[G.out,pI,Qi,N.out]
    ·intro i h1 h2
     have U:i<k:=by rw[←G.out];exact h1
     have o:=D.out i U;have q:=Gm (t:=xs.map NP.m) (i:=i) (by rw[Qi,N.out];exact U);rw[List.getD,Qd h1,Option.getD_some]at o;rw[List.getD,Qd h2,Option.getD_some]at q;rw[o,q,List.getElem_map,ud (by rw[N.out];exact U)]
   go_wp2;go_ret;exact⟨gg,rfl,by rw[←uj];exact E.out,by rw[T.out];exact I.out⟩
theorem Kj (w:World) (p:Option Addr) (n c:Nat) (xs:List NP) (hR:uG w p n c xs) (hN:Need w):
 Calls Tryz.prog 10 #[.slice p n c] w (mW w (xs.map NP.m)):=by
 have T:=Qh hR.at_;have R:=Qh hR.at_.1;have HC:=Qh (And.intro hR.nc hR.cm);have W:=Qh hR.room;have HN:=Qh hN;have N:=Ms p n c xs w hR.at_ hR.nc hR.cm (fun x B=>⟨(hR.room x B).1,(hR.room x B).2.1⟩) hN.A2;obtain⟨g,J⟩:∃g,cG (xs.map NP.m)=g:=⟨_,rfl⟩
 rw[J]at N;have A:=Qh J;have D:=Qh N;clear hR hN N J
 go_enter Tryz.func10,Tryz.ntmps10
 go_wp2_with fail
 refine D.out.mono ?_;rintro e w1 ⟨rfl,d⟩;have E:=Qh d;clear d D
 cases g with
 |false=>
  go_wp2;go_ret2;exact .inr ⟨A.out,none,0,rfl,E.out⟩
 |true=>
  have hn:n≤4096:=by
   have:=NY A.out
   rwa [Qi,R.out]at this
  have o:=Fb w1 p n c xs (T.out.below E.out) hn;have U:=Qh o;clear o;go_wp2_with fail;refine U.out.mono ?_;rintro e w2 ⟨gg,rfl,q,b⟩;have Z:=Qh (E.out.trans (b.mono E.out.size));have L:=q.strs;rw[pI,Qi,R.out]at L
  have hm:=AA w2 p n c xs (some ⟨gg,0,none⟩) n n (jm (xs.map NP.m)) ⟨T.out.below Z.out,HC.out.1,HC.out.2,by omega,W.out,A.out⟩ ⟨L,Qk _,by unfold maxLen;omega,by omega,fun s hs=>by
   obtain⟨x,B,rfl⟩:=List.mem_map.1 hs;obtain⟨y,hy,rfl⟩:=List.mem_map.1 B
   exact(W.out y hy).1⟩
  rw[O3 A.out (kI _)]at hm;unfold p7 at hm;have X:=Qh hm;have f:=Z;clear hm L q b U;go_wp2_with fail;refine X.out.mono ?_;rintro e w4 ⟨q4,d4,ys,rfl,H,Y,I,RX,l⟩;have M:=Qh (f.out.trans (l.mono f.out.size));have u:(dQ (xs.map NP.m) (jm (xs.map NP.m))).length≤4096:=jG A.out;have G:=Mx q4 (dQ (xs.map NP.m) (jm (xs.map NP.m))).length d4 ys w4 Y u (fun x B=>fT A.out x.m (by unfold fg;rw[←H];exact List.mem_map_of_mem B)) (HN.out.below M.out);rw[H]at G;unfold yd at G;have O:=Qh G;clear H Y I RX l u G X;go_wp2_with fail;refine O.out.mono ?_;rintro e w5 ⟨v,rfl,z,r⟩;obtain⟨p5,c5,rfl,hle,V,t,_,_⟩:=z.slice;have F:=Qh (And.intro hle (And.intro V (And.intro t (M.out.trans (r.mono M.out.size)))));clear z hle V t r O;go_wp2;go_ret2;exact .inl ⟨A.out,p5,c5,rfl,F.out.1,F.out.2.1,F.out.2.2.1,F.out.2.2.2⟩
theorem AH {bs:List UInt8}:∀m∈(dv bs).1,m.path.length≤200∧m.target.length≤200∧m.body.length≤1048576:=fun m hm=>by
 obtain⟨⟨ms,e,a⟩,h⟩:∃x,dv bs=x:=⟨_,rfl⟩
 rw[h]at hm;rcases we h with⟨_,h2,_⟩|⟨_,_,h2⟩
 ·simp only[h2]at hm;cases hm
 ·have A:=ga (h2 m hm)
  exact⟨A.wJ,A.DL,A.body⟩
theorem NK (w:World) (p:Option Addr) (n c:Nat) (bs:List UInt8) (q:Option Addr) (m d:Nat) (zs:List Int) (hb:cK w p n bs) (hl:bs.length=n) (hn:n≤140737488351232) (hq:Ho w q m zs) (hz:zs.length=m) (hm:m*8≤140737488351232) (hN:Need w):
 Calls Tryz.prog 13 #[.slice p n c,.slice q m d] w (tY w bs):=by
 obtain⟨W,hW⟩:∃W,w.alloc (.cells #[.int .i64 0,.int .i64 0] 32)=W:=⟨_,rfl⟩
 have O:Below w.heap.size w W:=by rw[←hW];exact(Below.refl _ _).alloc (Qk _) _
 have YK:au W w.heap.size 32 #[.int .i64 0,.int .i64 0]:=by rw[←hW];exact au.new w _ _
 have M:=CW W p n c bs q m d zs (hb.below O) hl hn (hq.kept (Kept.aO O ai) (fun _ _ _ h=>h.elim)) hz hm (hN.below O);unfold TG at M;have b:=Qh (AH (bs:=bs));have Re:=Qh (xQ bs);obtain⟨⟨ms,A,a⟩,y⟩:∃x,dv bs=x:=⟨_,rfl⟩
 have J:Hid ((A≠0→kN bs=([],A,a))∧(A=0→kN bs=iX ms)):=Qh (by
  unfold kN;rw[y]
  exact⟨fun h=>if_neg h,fun h=>if_pos h⟩)
 rw[y]at M b Re;obtain⟨r,B⟩:∃z:Int,((a:Nat):Int)=z:=⟨_,rfl⟩
 rw[B]at M;have Z:=Qh B;have HR:=Qh M;have HN:=Qh hN;have iU:=Qh O;have pS:=Qh YK;clear hb hl hn hq hz hm hN O YK M y B
 go_enter Tryz.func13,Tryz.ntmps13
 go_upto_region 1 with fail
 clear hW;go_wp2_with fail;refine HR.out.mono ?_;rintro e R ⟨q1,c1,xs,rfl,gw,YY,OI,N,t⟩;obtain⟨w2,U⟩:∃w2,R.alloc (.cells #[.int .i64 A,.int .i64 r] 32)=w2:=⟨_,rfl⟩
 have g:Below R.heap.size R w2:=by rw[←U];exact(Below.refl _ _).alloc (Qk _) _
 have yB:au w2 R.heap.size 32 #[.int .i64 A,.int .i64 r]:=by rw[←U];exact au.new R _ _
 have o:=t.trans (g.mono t.size);have V:=Qh (iU.out.trans (o.mono iU.out.size));have L:=Qh (And.intro OI (And.intro (N.below g) (And.intro gw YY)));have H:=pS.out.below o pS.out.lt;have rq:=Qh H;have e0:=yB.cell 0;have e1:=yB.cell 1;have X:=H.cell 0;have Y:=H.cell 1;have f0:=H.frozen 0;have f1:=H.frozen 1;simp only[Qc,Qa,Qb]at e0 e1 X Y;clear gw YY OI N t g yB o H HR
 by_cases he:A=0
 ·have I:=Qh (J.out.2 he)
  subst he;go_upto_region 2 with fail;clear U;clear e1 X Y f0 f1
  have hf:=Mr q1 xs.length c1 xs w2 L.out.2.1 (by have:=Re.out;rw[←Qi (f:=MP.m),L.out.1];omega) (fun x hx=>by
   have:=b.out x.m (by rw[←L.out.1];exact List.mem_map_of_mem hx)
   exact⟨by omega,by omega⟩) (fun x hx=>by
   have:=b.out x.m (by rw[←L.out.1];exact List.mem_map_of_mem hx)
   omega) (HN.out.below V.out).A2
  unfold uA at hf;rw[L.out.1]at hf;obtain⟨⟨T,E,k⟩,hT⟩:∃x,iX ms=x:=⟨_,rfl⟩
  rw[hT]at hf;have HT:=Qh hT;obtain⟨kz,pb⟩:∃z:Int,((k:Nat):Int)=z:=⟨_,rfl⟩
  rw[pb]at hf;have UE:=Qh pb;have HF:=Qh hf;clear hf hT pb;go_wp2_with fail;refine HF.out.mono ?_;rintro e w3 ⟨q3,d3,us,rfl,l,ig,Y1,Oe,u,_,_⟩;have Sh:us.length=T.length:=by rw[←l,Qi]
  have fV:=Qh (V.out.trans (u.mono V.out.size));have G:=rq.out.below u rq.out.lt;have Xc:=Qh G;have D:=Qh (And.intro l (And.intro ig (And.intro Y1 (And.intro Oe Sh))));have X:=G.cell 0;have Y:=G.cell 1;have f0:=G.frozen 0;have f1:=G.frozen 1;simp only[Qc,Qa,Qb]at X Y;clear l ig Y1 Oe u G e0 HF Sh;go_wp2;refine bodyPost_ret (Jc rfl _ _ w.heap.size _ rfl rfl E kz (qe Xc.out _ _)) rfl ?_;refine⟨q3,d3,us,by rw[I.out,HT.out,D.out.2.2.2.2,←UE.out];rfl,by rw[I.out,HT.out];exact D.out.1,?_,by rw[D.out.2.2.2.2];exact D.out.2.2.1,D.out.2.2.2.1,(fV.out.setCell (p:=⟨w.heap.size,0,none⟩) (Qk _) _).setCell (p:=⟨w.heap.size,1,none⟩) (Qk _) _⟩;have hk:Kept (ay w.heap.size) w3 ((w3.setCell ⟨w.heap.size,0,none⟩ (.int .i64 E)).setCell ⟨w.heap.size,1,none⟩ (.int .i64 kz)):=((Kept.refl (ay w.heap.size) w3).setCell (a:=⟨w.heap.size,0,none⟩) (.inr rfl) _).setCell (a:=⟨w.heap.size,1,none⟩) (.inr rfl) _;have hn:=D.out.2.1;rw[←D.out.2.2.2.2]at hn;exact Ln Xc.out hn hk
 ·have I:=Qh (J.out.1 he)
  have cX:(A != 0)=true:=by simpa using he
  clear he;go_upto_region 3 with fail;clear U
  go_still_tail 2,(by kernel_rfl)
  go_wp2;refine bodyPost_ret (Jc rfl _ _ w.heap.size _ rfl rfl A r (qe (rq.out.drew) _ _)) rfl ?_;refine⟨none,0,[],by rw[I.out,←Z.out];rfl,by rw[I.out];rfl,rR _ _,Qk _,by unfold maxLen;omega,((below_drewN V.out 1).setCell (p:=⟨w.heap.size,0,none⟩) (Qk _) _).setCell (p:=⟨w.heap.size,1,none⟩) (Qk _) _⟩
theorem Km (w:World) (p:Option Addr) (n c:Nat) (xs:List MP) (hM:yj w p n c xs):
 Calls Tryz.prog 19 #[.slice p n c] w fun e w'=>e=.returned (.bool (mF (xs.map MP.m)))∧Below w.heap.size w w':=by
 have R:=Qh hM.at_;have N:=Qh hM.at_.1;obtain⟨r,O⟩:∃r,mF (xs.map MP.m)=r:=⟨_,rfl⟩
 have T:=Qh O;have u:=hM.few;rw[O];clear hM O
 go_enter Tryz.func19,Tryz.ntmps19
 go_wp2_with fail
 go_loopw [3] (fun i wr=>∃(k:Nat),1≤k∧(k≤n∨k=1)∧i=.int .i64 (k:Int)∧Hid (tv (xs.map MP.m) k=true)∧Hid (Below w.heap.size w wr)) (fun i _=>n+1 - (RowKit.intOf i).toNat)
 case atStart=>exact⟨1,Qk _,.inr rfl,rfl,Qh (L5 _),Qh (Below.refl _ _)⟩
 case round=>
  obtain⟨k,ej,hk,rfl,X,D⟩:=hrel
  by_cases V:k<n
  ·obtain⟨b,o,rfl,f,l,hc⟩:=(R.out.below D.out).kU V
   obtain⟨z,o',he,_,_,J⟩:=(R.out.below D.out).kU (show k - 1<n by omega)
   cases he
   have G:=j3 xs k;have A:=j3 xs (k - 1);obtain⟨x,Y⟩:∃x,xs.getD k cn=x:=⟨_,rfl⟩
   obtain⟨y,hy⟩:∃y,xs.getD (k - 1) cn=y:=⟨_,rfl⟩
   rw[Y]at hc G;rw[hy]at J A;obtain⟨m,hm⟩:∃m,k - 1=m:=⟨_,rfl⟩
   rw[hm]at J A;have hS:=GM (xs.map MP.m) k (by omega);rw[X.out,Bool.true_and,hm,G,A]at hS;have M:Hid (∀p:ie wr,Calls Tryz.prog 45 #[.string (str y.m.path),.string (str x.m.path)] p.w' fun e w'=>e=.returned (.bool (eH y.m.path x.m.path))∧p.w'=w'):=Qh (fun p=>Path.qB y.m.path x.m.path p.w');obtain⟨L,W⟩:∃L,eH y.m.path x.m.path=L:=⟨_,rfl⟩
   rw[W]at M hS;have U:=Qh hS;have Z:=wY hc.1;have d:=wY J.1;have q1:IntKind.i64.wrap ((k:Int) - 1)=(m:Int):=by rw[IntKind.wrap_i64];omega
   have j5:(k:Int)<(n:Int):=by omega
   have g:(m:Int)<(n:Int):=by omega
   have q:Hid (k<(xs.map MP.m).length):=Qh (by rw[Qi,N.out];exact V);clear hc J f l G A Y hy W hm hS
   cases L with
   |true=>
    go_upto_region 4 with fail
    refine aP (by kernel_rfl) (by kernel_rfl) ?_
    repeat (quiet_step (first|(go_at_call 45;exact Calls.mG (M.out _))))
    refine wpQuiet_nil ?_;intro t I;have H:=cJ I;clear I Z d;have B:=Qh (D.out.trans (H.mono D.out.size));clear H;go_wp2;go_roundw
    case rel=>exact⟨k+1,by omega,by omega,by go_num,U,B⟩
    case measure=>simp[RowKit.intOf];omega
   |false=>
    have E:Hid (r=false):=Qh (by
     rw[←T.out]
     cases h:mF (xs.map MP.m)with
     |false=>rfl
     |true=>
      have h1:=PR h (k+1) (by have:=q.out;omega);rw[U.out]at h1
      cases h1)
    go_upto_region 4 with fail
    refine aP (by kernel_rfl) (by kernel_rfl) ?_
    repeat (quiet_step (first|(go_at_call 45;exact Calls.mG (M.out _))))
    refine wpQuiet_nil ?_;intro t I;have H:=cJ I;clear I Z d;have B:=Qh (D.out.trans (H.mono D.out.size));clear H;go_wp2;go_ret;exact⟨by rw[E.out];rfl,B.out⟩
  ·have lP:¬((k:Int)<(n:Int)):=by omega
   have E:Hid (r=true):=Qh (by
    rw[←T.out];rcases Nat.eq_zero_or_pos n with h0|h0
    ·have:xs=[]:=List.eq_nil_of_length_eq_zero (by rw[N.out,h0])
     rw[this];rfl
    ·rw[←L2,Qi,N.out,show n=k by omega]
     exact X.out)
   go_wp2;go_ret;exact⟨by rw[E.out];rfl,D.out⟩
theorem emitC:EmitC where
 pack w p n c xs hR hN:=Kj w p n c xs hR hN
 unpack w p n c bs q m d zs h1 h2 h3 h4 h5 h6 hN:=NK w p n c bs q m d zs h1 h2 h3 h4 h5 h6 hN
 sorted w p n c xs hM _:=Km w p n c xs hM
end Ea
namespace Tre
open Mem
def hA:aw:=⟨[97],[98],49,0,0,0,0,[]⟩
def nA:aC:=⟨[97],[],[97],48,0,0,0,0,[120]⟩
theorem Yu:cG [cz]=false:=by decide+kernel
theorem ZV {y:MP} (hb:au w b 48 y.cs) (hB:dP w y):dD w (some ⟨b,0,none⟩) 1 [y]:=by
 refine⟨rfl,fun x A=>by rw[List.mem_singleton]at A;subst A;exact hB,fun _=>⟨b,0,rfl,hb.lt,fun i hi j B=>?_⟩⟩;obtain rfl:i=0:=by omega
 rw[show 0+8*0+j=j by omega];exact hb.cell j
theorem yT {y:NP} (hb:au w b 52 y.cs) (hB:cY w y):aV w (some ⟨b,0,none⟩) 1 [y]:=by
 refine⟨rfl,fun x A=>by rw[List.mem_singleton]at A;subst A;exact hB,fun _=>⟨b,0,rfl,hb.lt,fun i hi j B=>?_⟩⟩;obtain rfl:i=0:=by omega
 rw[show 0+9*0+j=j by omega];exact hb.cell j
theorem J8 (w:World) (m:aC) (h:m.body=[]):cY w ⟨m,none,0⟩:=by
 refine⟨?_,?_,?_⟩
 ·show cK w none m.body.length m.body
  rw[h];exact fun A=>absurd A (by decide)
 ·show m.body.length≤0
  rw[h];exact Qk _
 ·show(0:Nat)≤_
  decide
end Tre
namespace Ea
open Rec Mem Tre p8
theorem TM:cG [nA]=true:=by decide+kernel
theorem Pk:fg [nA]=[nA.mem]:=by decide+kernel
theorem yX:(jw [nA]).length=2048:=by
 have A:dz nA.mem:=ga (by decide+kernel);have h:=Gz A (by decide+kernel);unfold jw;rw[Pk,lr,Qf,List.length_replicate,fK,Qf,h];decide
theorem J5 (H:EmitC) (w:World) (hN:Need w):Calls Tryz.prog 9 #[] w fun e w'=>e=.returned (.bool true)∧Below w.heap.size w w':=by
 have kc:(convert 26 26 (.slice (some ⟨w.heap.size,0,none⟩) 1 1)).run Tryz.prog (w.alloc (.cells #[.int .u8 120] 5))=.ok (.slice (some ⟨w.heap.size,0,none⟩) 1 1) (w.alloc (.cells #[.int .u8 120] 5 (1,2))):=
  Lib.run_convert_bytes_const (P:=Tryz.prog) w 26 5 #[.int .u8 120] 1 1 Tryz.underlying26 Tryz.underlying5
 obtain⟨W1,G⟩:∃W1,(w.alloc (.cells #[.int .u8 120] 5 (1,2))).alloc (.cells #[.string ⟨#[97]⟩,.string ⟨#[]⟩,.string ⟨#[97]⟩,.int .u8 48,.int .i64 0,.int .i64 0,.int .i64 0,.int .i64 0,.slice (some ⟨w.heap.size,0,none⟩) 1 1] 52)=W1:=⟨_,rfl⟩
 have Z:Below w.heap.size w W1:=by rw[←G];exact((Below.refl _ w).alloc (Qk _) _).alloc (by simp) _
 have ck:au W1 (w.heap.size+1) 52 (NP.cs ⟨nA,some ⟨w.heap.size,0,none⟩,1⟩):=by
  have:=au.new (w.alloc (.cells #[.int .u8 120] 5 (1,2))) 52 (NP.cs ⟨nA,some ⟨w.heap.size,0,none⟩,1⟩);rw[World.size_alloc]at this;rw[←G];exact this
 have M:cK W1 (some ⟨w.heap.size,0,none⟩) 1 [120]:=fun _=>⟨w.heap.size,0,rfl,fun i hi=>by
  obtain rfl:i=0:=by omega
  rw[←G]
  have:(w.alloc (.cells #[.int .u8 120] 5 (1,2))).cell? ⟨w.heap.size,0,none⟩=some (.int .u8 120):=by
   unfold World.cell?;rw[heap_alloc_new];rfl
  exact(((Below.refl (w.heap.size+1) (w.alloc (.cells #[.int .u8 120] 5 (1,2)))).alloc (by simp) _).cell (p:=⟨w.heap.size,0,none⟩) (by show w.heap.size<w.heap.size+1;omega)).trans this⟩
 have B:=H.pack W1 (some ⟨w.heap.size+1,0,none⟩) 1 1 [⟨nA,some ⟨w.heap.size,0,none⟩,1⟩] ⟨yT ck ⟨M,by show(1:Nat)≤1;decide,by show(1:Nat)≤maxLen;decide⟩,Qk _,by decide,fun x A=>by
  rw[List.mem_singleton.1 A];exact⟨by show(1:Nat)≤_;decide,by show(0:Nat)≤_;decide,by show(1:Nat)≤_;decide,by show(1:Nat)≤_;decide⟩⟩ (hN.below Z)
 rw[show([⟨nA,some ⟨w.heap.size,0,none⟩,1⟩]:List NP).map NP.m=[nA]from rfl]at B;unfold mW at B;rw[yX]at B;have f:=Qh B;have HC:=Qh H;have u:=Qh G;have cr:=Qh Z;have V:=Qh hN;clear G Z ck M B H hN
 go_enter Tryz.func9,Tryz.ntmps9
 go_wp2_with fail
 rw[u.out];refine f.out.mono ?_;rintro e w2 (⟨_,p2,c2,rfl,Fv,X,z,bY⟩|⟨hf,_⟩)
 rotate_left
 ·exact absurd TM (by rw[hf];decide)
 have Y:=Qh (cr.out.trans (bY.mono cr.out.size));have hu:=HC.out.unpack w2 p2 2048 c2 (jw [nA]) none 0 0 [] z yX (by decide) (OJ w2) rfl (by decide) (V.out.below Y.out);unfold tY at hu;rw[tC TM]at hu;have r:=Qh hu;clear Fv X z bY hu f u kc;go_wp2_with fail;refine r.out.mono ?_;rintro e w3 ⟨q3,d3,zs,rfl,T,t,_,_,eN⟩;have fV:=Qh (Y.out.trans (eN.mono Y.out.size))
 have y:zs.length=1:=by
  have:=congrArg List.length T
  simpa using this
 obtain⟨z0,rfl⟩:=List.length_eq_one_iff.1 y;clear y;simp only[List.map_cons,List.map_nil,List.cons.injEq,and_true]at T;obtain⟨m0,p0,c0⟩:=z0;simp only at T;subst T;obtain⟨b,o,rfl,iN,hB,k0⟩:=t.dF (i:=0) (by simp);have N:eS w3 b o ⟨nA,p0,c0⟩:=by simpa using k0
 obtain⟨W4,O⟩:∃W4,(w3.alloc (.cells #[.int .i64 0,.int .i64 0] 32)).alloc (.cells #[.string ⟨#[]⟩,.string ⟨#[]⟩,.string ⟨#[]⟩,.int .u8 0,.int .i64 0,.int .i64 0,.int .i64 0,.int .i64 0,.slice none 0 0] 52)=W4:=⟨_,rfl⟩
 have W:Below w3.heap.size w3 W4:=by rw[←O];exact((Below.refl _ _).alloc (Qk _) _).alloc (by simp) _
 have J:au W4 w3.heap.size 32 #[.int .i64 0,.int .i64 0]:=by
  have A:=au.new w3 32 #[.int .i64 0,.int .i64 0];rw[←O];exact A.below ((Below.refl _ _).alloc (Qk _) _) A.lt
 have L:au W4 (w3.heap.size+1) 52 (NP.cs aD):=by
  have:=au.new (w3.alloc (.cells #[.int .i64 0,.int .i64 0] 32)) 52 (NP.cs aD);rw[World.size_alloc]at this;rw[←O];exact this
 have c:=Qh (fV.out.trans (W.mono fV.out.size))
 have R:=HC.out.pack W4 (some ⟨w3.heap.size+1,0,none⟩) 1 1 [aD] ⟨yT L (J8 W4 cz rfl),Qk _,by decide,fun x A=>by
  rw[List.mem_singleton.1 A];exact⟨by show(0:Nat)≤_;decide,by show(0:Nat)≤_;decide,by show(0:Nat)≤_;decide,by show(0:Nat)≤_;decide⟩⟩ (V.out.below c.out)
 rw[show([aD]:List NP).map NP.m=[cz]from rfl]at R;unfold mW at R;have g:=Qh R;have E:=Qh O;have D:=Qh W;have l:=Qh J;have q:=Qh (And.intro iN N);clear t iN hB k0 N O W J L R r eN;go_wp2_with fail;rw[E.out];refine g.out.mono ?_;rintro e w5 (⟨hf,_⟩|⟨_,p5,c5,rfl,U⟩)
 ·exact absurd hf (by rw[Yu];decide)
 have I:Below w3.heap.size w3 w5:=D.out.trans (U.mono D.out.size);have f0:=(l.out.below U l.out.lt).cell 0;have s0:w5.cell? ⟨b,o+2,none⟩=some (.string ⟨#[97]⟩):=(q.out.2.below q.out.1 I).2.2.1;simp only[Qc,Qa]at f0;have d:=Qh (c.out.trans (U.mono c.out.size));have hs:=HC.out.sorted w5 none 0 0 [] ⟨wh w5 none,Qk _,by decide,by decide,fun x A=>by cases A⟩ (V.out.below d.out);have HS:=Qh hs;clear U I hs g E;go_wp2_with fail;refine HS.out.mono ?_;rintro e w6 ⟨rfl,qn⟩;have DV:=Qh (d.out.trans (qn.mono d.out.size));clear qn f0 s0;go_wp2;go_ret;exact⟨rfl,DV.out⟩
end Ea
end Go.Proofs.YtdhibldkldlfpaaGreatDoor
section
namespace Go.Proofs.YtdhibldkldlfpaaGreatDoor.Ea
open Go.ChangeShapes Go.WideShapes Go.ChangeAt Go.RowKit Base cf cN Bk Rec Mem Tre p8 Go.Lib
set_option linter.unusedVariables false
set_option maxRecDepth 100000
theorem PT {w:World} {p:Option Addr} {n:Nat} {xs:List NP} (h:aV w p n xs) (hr:∀x∈xs,Xj x.m∧uI x):∀x∈xs,x.m.path.length≤140737488351232∧x.m.target.length≤140737488351232∧x.m.ag.length≤140737488351232∧x.m.body.length≤140737488351232:=fun x A=>by
 have h1:=(hr x A).2;have B:=(h.2.1 x A).le;exact⟨h1.1,h1.2.1,h1.2.2.1,by have:=h1.2.2.2;omega⟩
theorem L7 {xs ys:List NP} (h:ys.map NP.m=xs.map NP.m) (hx:∀x∈xs,x.m.path.length≤140737488351232∧x.m.target.length≤140737488351232∧x.m.ag.length≤140737488351232∧x.m.body.length≤140737488351232):∀y∈ys,y.m.path.length≤140737488351232∧y.m.target.length≤140737488351232∧y.m.ag.length≤140737488351232∧y.m.body.length≤140737488351232:=fun y hy=>by
 have:y.m∈xs.map NP.m:=by rw[←h];exact List.mem_map_of_mem hy
 obtain⟨x,A,e⟩:=List.mem_map.1 this;rw[←e];exact hx x A
end Go.Proofs.YtdhibldkldlfpaaGreatDoor.Ea
namespace Go.Proofs.YtdhibldkldlfpaaGreatDoor.Walk
open Go.ChangeShapes Go.WideShapes Go.ChangeAt Go.RowKit Base cf cN Bk Rec Block Mem Tre p8 Ea Go.Lib
set_option linter.unusedVariables false
set_option maxRecDepth 100000
set_option maxHeartbeats 8000000 in
theorem E9 (H:EmitC) (a0:Option Addr) (len0 cap0:Nat) (xs0:List NP) (a1:Option Addr) (len1 cap1:Nat) (z1:List Int) (w:World) (ma0:aV w a0 len0 xs0) (lc0:len0≤cap0) (cm0:cap0≤maxLen) (by0:cap0*112≤140737488351232) (rm0:∀x∈xs0,Xj x.m∧uI x)
 (w1:IsRow .i64 w a1 len1 cap1 z1) (b1:cap1*8≤140737488351232) (hN:Need w):
 Calls Tryz.prog 3 #[.slice a0 len0 cap0,.slice a1 len1 cap1] w fun e w'=>e=.returned (.bool true)∧Below w.heap.size w w':=by
 obtain⟨t,VM,hic,him⟩:=FI w1;have M:=Qh (And.intro t (And.intro VM (show len1*8≤140737488351232 by omega)));have TC:=Qh (PT ma0 rm0);have HS:=Qh (CK a0 len0 cap0 xs0 w ma0 lc0 cm0 TC.out);unfold yi at HS;have L:Hid (∀w1,Below w.heap.size w w1→Calls Tryz.prog 9 #[] w1 fun e w'=>e=.returned (.bool true)∧Below w1.heap.size w1 w'):=Qh fun w1 h=>J5 H w1 (hN.below h)
 have HC:=Qh H;have c:=Qh ma0;have HN:=Qh hN;have HL:=Qh ma0.1;have V:=Qh (And.intro lc0 cm0);have y:Hid (∀x∈xs0,uI x):=Qh (fun x D=>(rm0 x D).2);clear ma0 lc0 cm0 by0 rm0 hN H w1 b1 t VM hic him
 go_enter Tryz.func3,Tryz.ntmps3
 go_wp2_with fail
 refine HS.out.mono ?_;rintro e w2 ⟨s,rfl,hs,bY⟩;have W:=Qh bY;clear HS bY
 cases s with
 |false=>
  clear hs;go_wp2_with fail;refine(L.out _ W.out).mono ?_;rintro e w3 ⟨rfl,g⟩;have Z:=Qh (W.out.trans (g.mono W.out.size));clear g;go_wp2;go_ret;exact⟨rfl,Z.out⟩
 |true=>
  have yF:=hs rfl;clear hs;have N:=Qh (Mb a0 len0 cap0 xs0 w2 (c.out.below W.out) (by omega) (fun x D=>(TC.out x D).2.2.2));unfold BH at N;go_wp2_with fail;refine N.out.mono ?_;rintro e w3 ⟨q3,d3,ys,rfl,QV,Ue,g,Y1,Oe⟩;have l:=Qh (W.out.trans (g.mono W.out.size));have z:=HC.out.pack w3 q3 len0 d3 ys ⟨Ue,Y1,Oe,L7 QV TC.out⟩ (HN.out.below l.out);rw[QV]at z;unfold mW at z;have HP:=Qh z;clear QV Ue g Y1 Oe z N;go_wp2_with fail;refine HP.out.mono ?_;rintro e w4 (⟨T,p4,c4,rfl,r,RX,YX,o⟩|⟨T,p4,c4,rfl,o⟩)
  ·have U:=Qh (l.out.trans (o.mono l.out.size))
   have O:=wR a0 len0 cap0 xs0 w4 (c.out.below U.out) V.out.1 V.out.2 (fun x D=>⟨(y.out x D).1,(y.out x D).2.1⟩);rw[T]at O;have d:=Qh O;have HG:=Qh T;have Qz:=Qh YX;obtain⟨k,hk⟩:∃k,(jw (xs0.map NP.m)).length=k:=⟨_,rfl⟩
   have eV:=SX T;rw[hk]at eV;have HK:=Qh hk;rw[hk]at Qz⊢;have od:=Qh (And.intro r (And.intro RX eV));clear T r RX YX o O HP hk eV;go_wp2_with fail;refine d.out.mono ?_;rintro e w5 ⟨rfl,X⟩;have I:=Qh (U.out.trans (X.mono U.out.size));have XN:=Qh (Qz.out.below X);have hu:=HC.out.unpack w5 p4 k c4 (jw (xs0.map NP.m)) a1 len1 cap1 (z1.take len1) XN.out HK.out (by have:=od.out.2.2;omega) (M.out.1.kept (Kept.aO I.out ai) (fun _ _ _ h=>h.elim)) M.out.2.1 M.out.2.2 (HN.out.below I.out);unfold tY at hu;rw[tC HG.out]at hu;have HU:=Qh hu;clear X hu d;go_wp2_with fail;refine HU.out.mono ?_;rintro e J ⟨q6,d6,us,rfl,V6,ig,hd6,af3,Y⟩;have Sh:us.length=len0:=by rw[←Qi (f:=NP.m),V6,Qi,HL.out]
   obtain⟨w7,B⟩:∃w7,J.alloc (.cells #[.int .i64 0,.int .i64 0] 32)=w7:=⟨_,rfl⟩
   have u:Below J.heap.size J w7:=by rw[←B];exact(Below.refl _ _).alloc (Qk _) _
   have p:au w7 J.heap.size 32 #[.int .i64 0,.int .i64 0]:=by rw[←B];exact au.new J _ _
   have b:=Qh (I.out.trans (Y.mono I.out.size));have E:=Qh (b.out.trans (u.mono b.out.size));have xy:=Qh (ig.below u);have HUS:=Qh V6;have M7:=Qh p;have ac2:=Qh ((XN.out.below Y).below u);obtain⟨ds,R⟩:∃ds,str (jw (xs0.map NP.m))=ds:=⟨_,rfl⟩
   have HDS:=Qh R
   have G:∀w',Below w7.heap.size w7 w'→w'.cell? ⟨J.heap.size,0,none⟩=some (.int .i64 0)∧Sem.run Tryz.prog (convert 26 9 (.slice p4 k c4)) w'=.ok (.string ds) w':=fun w' h=>by
    refine⟨(M7.out.below h M7.out.lt).cell 0,?_⟩;rw[←R];exact cw (ac2.out.below h) HK.out 26 5 9 Tryz.underlying26 Tryz.underlying5 Tryz.underlying9 c4
   have Jl:=Qh G;have A:Hid (Below w7.heap.size w7 w7.drew):=Qh (below_drewN (Below.refl w7.heap.size w7) 1);rw[Sh]at xy⊢;clear V6 ig Sh hd6 af3 Y u p R G HU;have Yn:=Qh B;clear B;go_upto_region 7 with fail;rw[Yn.out]
   go_region_held_law (fun w'=>w'.cell? ⟨J.heap.size,0,none⟩=some (.int .i64 0)∧Sem.run Tryz.prog (convert 26 9 (.slice p4 k c4)) w'=.ok (.string ds) w') (first|exact Jl.out _ A.out|exact Jl.out _ (A.out.alloc A.out.size _)) (first
    |(go_at_call 9
      refine(L.out _ (E.out.trans (A.out.mono E.out.size))).mono ?_;rintro e wa ⟨rfl,kW⟩;have A:=Qh (A.out.trans (kW.mono A.out.size))
      clear kW)
    |(go_at_call 14
      refine(Mc a0 len0 cap0 xs0 _ (c.out.below (E.out.trans (A.out.mono E.out.size))) (by omega) HG.out).mono ?_;rintro e wp ⟨vp,rfl,aX,vD⟩;rw[HK.out]at aX;obtain⟨pp,cp,rfl,_,_,q,IA,_⟩:=aX.slice
      have cs1:Sem.run Tryz.prog (convert 26 9 (.slice pp k cp)) wp=.ok (.string ds) wp:=by
       rw[←HDS.out];exact cw q IA 26 5 9 Tryz.underlying26 Tryz.underlying5 Tryz.underlying9 cp
      have A:=Qh (A.out.trans (vD.mono A.out.size))
      clear aX vD q IA)
    |(go_at_call 15
      refine(GO a0 q6 len0 len0 cap0 d6 xs0 us _ (Nat.le_trans V.out.1 V.out.2) (c.out.below (E.out.trans (A.out.mono E.out.size))) (xy.out.below A.out)).mono ?_;rw[decide_eq_true HUS.out.symm];rintro e ws ⟨rfl,Is⟩;have A:=Qh (A.out.trans (Is.mono A.out.size))
      clear Is))
   all_goals
    have Z:=Qh (E.out.trans (A.out.mono E.out.size));go_wp2;go_ret;exact⟨rfl,Z.out⟩
  ·have U:=Qh (l.out.trans (o.mono l.out.size))
   have O:=wR a0 len0 cap0 xs0 w4 (c.out.below U.out) V.out.1 V.out.2 (fun x D=>⟨(y.out x D).1,(y.out x D).2.1⟩);rw[T]at O;have d:=Qh O;clear T o O HP;go_wp2_with fail;refine d.out.mono ?_;rintro e w5 ⟨rfl,X⟩;have I:=Qh (U.out.trans (X.mono U.out.size));clear X d;go_wp2_with fail;refine(L.out _ I.out).mono ?_;rintro e J ⟨rfl,Y⟩;have Z:=Qh (I.out.trans (Y.mono I.out.size));clear Y;go_wp2;go_ret;exact⟨rfl,Z.out⟩
end Go.Proofs.YtdhibldkldlfpaaGreatDoor.Walk
end
namespace Go.Proofs.YtdhibldkldlfpaaGreatDoor
set_option linter.unusedVariables false
namespace Walk
open Go.ChangeShapes Go.WideShapes Go.ChangeAt Go.RowKit Base cf cN Bk Rec Block Mem Tre p8 Ea Go.Lib
theorem emitPacks (a0:Option Addr) (len0 cap0:Nat) (xs0:List NP) (a1:Option Addr) (len1 cap1:Nat) (z1:List Int) (w:World) (ma0:aV w a0 len0 xs0) (lc0:len0≤cap0) (cm0:cap0≤maxLen) (by0:cap0*112≤140737488351232) (rm0:∀x∈xs0,Xj x.m∧uI x)
 (w1:IsRow .i64 w a1 len1 cap1 z1) (b1:cap1*8≤140737488351232) (hN:Need w):
 Calls Tryz.prog 3 #[.slice a0 len0 cap0,.slice a1 len1 cap1] w fun e w'=>e=.returned (.bool true)∧Below w.heap.size w w':=E9 emitC a0 len0 cap0 xs0 a1 len1 cap1 z1 w ma0 lc0 cm0 by0 rm0 w1 b1 hN
end Walk
end Go.Proofs.YtdhibldkldlfpaaGreatDoor
