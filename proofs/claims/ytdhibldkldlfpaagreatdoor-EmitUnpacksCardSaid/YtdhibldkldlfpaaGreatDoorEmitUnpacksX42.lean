/- Merged. -/
import Derived.Test.YtdhibldkldlfpaaGreatDoorEmitUnpacksX22
import Derived.Test.YtdhibldkldlfpaaGreatDoorEmitUnpacksX31
import Derived.Test.YtdhibldkldlfpaaGreatDoorEmitUnpacksX39
import Derived.Test.YtdhibldkldlfpaaGreatDoorEmitUnpacksX40
import Derived.Test.YtdhibldkldlfpaaGreatDoorEmitUnpacksX41
import Derived.Shelf.SlIter.Sorted
import Derived.Test.YtdhibldkldlfpaaGreatDoorEmitUnpacksX34
import Derived.Test.YtdhibldkldlfpaaGreatDoorEmitUnpacksX38
import Derived.Test.YtdhibldkldlfpaaGreatDoorEmitUnpacksX27
namespace Go.Proofs.YtdhibldkldlfpaaGreatDoor
set_option linter.unusedVariables false
set_option maxHeartbeats 16000000
set_option maxRecDepth 100000
open Go.ChangeShapes Go.WideShapes Go.ChangeAt Go.RowKit Base cb iK Bk Go.Lib
variable {e:Int} {ts:List (List UInt8)} {bs:List UInt8} {B b c n:Nat} {p:Option Addr} {W w w':World}
namespace kY
open Go.Shelf Mk
variable {f:List UInt8→Option Value}
theorem OW (x y:List UInt8):ltOf yX x y=j1 x y:=by
 unfold ltOf;rw[Bool.eq_iff_iff,decide_eq_true_eq,Gk]
theorem aH9:Go.Sort.SWO (ltOf yX) where
 irrefl x:=by rw[OW];exact re x
 trans x y z h1 h2:=by rw[OW]at*;exact nY x y z h1 h2
 ntrans x y z h1 h2:=by
  rw[OW]at*
  cases h:j1 x z with
  |false=>rfl
  |true=>rw[Ha h h2]at h1;cases h1
def Tq (w:World) (ks:List (List UInt8)) (e:Ending) (w':World):Prop:=
 ∃(v:Value) (ts:List (List UInt8)),e=.returned v∧ts.Perm ks∧ts.Pairwise (fun a b=>j1 a b=true)∧w'.ownsRow w.heap.size 9 1 v ts.length (ts.map fun x=>.string (str x))∧Below w.heap.size w w'
theorem UY (B:Nat) (w:World):Calls Tryz.prog 87 #[.map (some B)] w fun e w'=>e=.returned (.func (.func 131) #[] #[.pointer (some ⟨w.heap.size,0,none⟩)])∧w'=w.alloc (.cells #[.map (some B)] 99):=
 callsIn_wide.1 (AnyZ.keys_in Tryz.Jy Fence.wide 4 trivial rfl (some B) w)
theorem Sk {ks:List (List UInt8)} (hp:ts.Perm ks) (hn:ks.Nodup) (hs:ts.Pairwise fun a b=>j1 b a=false):ts.Pairwise fun a b=>j1 a b=true:=by
 have A:ts.Nodup:=hp.nodup_iff.2 hn;have:=hs.and A;refine this.imp fun⟨h1,A⟩=>?_
 exact rf h1 (fun e=>A e.symm)
theorem TW (Bm B:Nat) (w:World) (hb:w.cell? ⟨Bm,0,none⟩=some (.map (some B))) (hM:jj p8 w B f) (hlen:∀x v,f x=some v→x.length≤maxLen) (ks:List (List UInt8)) (hnd:ks.Nodup) (uh:∀x,x∈ks↔(f x).isSome=true) (hsz:ks.length≤1000000000):
 Calls Tryz.prog 129 #[.func (.func 131) #[] #[.pointer (some ⟨Bm,0,none⟩)]] w fun e w'=>∃(v:Value) (ss:List (List UInt8)),e=.returned v∧ss.Perm ks∧w'.ownsRow w.heap.size 9 1 v ss.length (ss.map encStr)∧(v=.slice none 0 0↔ss=[])∧Below w.heap.size w w':=by
 obtain⟨D,E,H,A⟩:=Rp (P:=Tryz.prog) Tryz.underlying9 hM hlen ks hnd uh (by unfold maxLen;omega);have G:=AnyZ.keys_gives {Tryz.Jy with} Fence.wide 4 trivial rfl (by omega) Bm B ks.length D w (World.block_lt_of_cell? _ _ hb) hb E;have h:=AnyZ.collect_in Tryz.U5 Fence.wide 6 trivial trivial rfl (by omega) 131 #[.pointer (some ⟨Bm,0,none⟩)] trivial (enters_of Tryz.func131 (by kernel_rfl) rfl) (fun ss=>ss.Perm (strKeys D)) (Maps.size D) (by rw[A];unfold maxLen;omega) (by rw[A];omega) w G;exact(callsIn_wide.1 h).mono fun e w' ⟨v,ss,h1,h2,h3,h4,h5⟩=>⟨v,ss,h1,h2.trans H,h3,h4,h5⟩
theorem Nw (Bm B:Nat) (w:World) (hb:w.cell? ⟨Bm,0,none⟩=some (.map (some B))) (hM:jj p8 w B f) (hlen:∀x v,f x=some v→x.length≤maxLen) (ks:List (List UInt8)) (hnd:ks.Nodup) (uh:∀x,x∈ks↔(f x).isSome=true) (hsz:ks.length≤1000000000):
 Calls Tryz.prog 86 #[.func (.func 131) #[] #[.pointer (some ⟨Bm,0,none⟩)],.func (.func 88) #[] #[]] w (Tq w ks):=by
 have HC:=Qh (TW Bm B w hb hM hlen ks hnd uh hsz);have o:=Qh hnd;have g:=Qh hsz;clear hb hM hlen hnd uh hsz
 go_enter Tryz.func86,Tryz.ntmps86
 go_wp2_with fail
 refine HC.out.mono ?_;rintro e W ⟨v,ss,rfl,D,L,H,E⟩;rcases L.2 with⟨rfl,hz⟩|⟨gb,cap,cur,rfl,N,A,T,U,V,r4⟩
 ·have c:ss=[]:=List.eq_nil_of_length_eq_zero hz
  subst c;have P:=Qh (And.intro D (And.intro L E));have J:=Qh (AnyF.slices_SortFunc_none Tryz.Re none 0 (.func (.func 88) #[] #[]) W);change Hid (Calls Tryz.prog 130 _ _ _)at J;clear D L E H;go_wp2_with fail;refine J.out.mono ?_;rintro e p ⟨rfl,rfl⟩;go_wp2;go_ret;exact⟨.slice none 0 0,[],rfl,P.out.1,List.Pairwise.nil,by simpa using P.out.2.1,P.out.2.2⟩
 ·have hH:Go.Sort.Holds encStr W gb 0 ss.toArray:=holds_of_block A (by simpa using r4)
  have Y:gb<W.heap.size:=(Array.getElem?_eq_some_iff.1 A).1;have hl:ss.length≤1000000000:=by rw[D.length_eq];exact g.out
  have M:=Any.slices_SortFunc Tryz.Rb encStr (fun _=>rfl) yX aH9 88 #[] gb 0 cap ss.toArray W (enters_of Tryz.func88 (by kernel_rfl) rfl)
   (fun m os q _ x y=>(Ae x y _).mono fun e w' ⟨h1,h2⟩=>⟨h1,0,#[],by rw[←h2,Go.Sort.grow_empty];rfl⟩) hH Y (by simp;omega)
  change Calls Tryz.prog 130 _ _ _ at M;rw[List.size_toArray]at M;have J:=Qh M;have P:=Qh (And.intro D (And.intro E (And.intro N (And.intro A (And.intro T (And.intro U V))))));clear M D E H L hH Y hl r4;go_wp2_with fail;refine J.out.mono ?_;rintro e p ⟨rfl,d',l,os,Z,hs,rfl⟩;have d:=Qh (And.intro Z hs);clear Z hs;go_wp2;go_ret;obtain⟨D,E,N,A,T,U,V⟩:=P.out;obtain⟨⟨X,_,R⟩,hs⟩:=d.out;have O:d'.toList.length=ss.length:=by simpa using X
  have I:d'.toList.Perm ss:=by
   have:(d'.extract 0 ss.length).toList.Perm (ss.toArray.extract 0 ss.length).toList:=R;have e:ss.length=d'.size:=by simpa using X.symm
   simpa [e,List.take_of_length_le (Nat.le_of_eq e)]using this
  refine⟨_,d'.toList,rfl,I.trans D,Sk (I.trans D) o.out ?_,?_,E.grown (grownBy_sorted _) E.size (fun j G=>by cases G;exact N)⟩
  ·refine List.pairwise_iff_getElem.2 fun i j hi G b=>?_
   have:=hs i j (Nat.zero_le _) b (by rw[O]at G;exact G);rw[OW]at this;simp only[Array.length_toList]at hi G
   simpa [getElem!_pos,hi,G]using this
  ·rw[O]
   have:=ownsRow_sorted (w:=W) (base:=w.heap.size) (n:=l) (e:=9) (os:=os) (ss:=ss) (ts:=d'.toList) O N A T U V;simp only[Array.toArray_toList]at this;exact this
end kY
namespace kY
open Mk Mem
def JP:pZ Nat where
 enc n:=.int .i64 (n:Int)
 kind:=.int .i64
 isKey _:=rfl
 inj a b h:=by injection h with _ h;omega
 same a:=by simp[Instr.sameBits]
def SAt (w:World) (p:Option Addr) (n:Nat) (ts:List (List UInt8)):Prop:=
 0<n→∃b o,p=some ⟨b,o,none⟩∧b<w.heap.size∧∀i,i<n→w.cell? ⟨b,o+i,none⟩=some (.string (str (ts.getD i [])))
theorem SAt.iH {S:Nat→Prop} (h:SAt w p n ts) (hk:Kept S w w') (hn:∀k,k<w.heap.size→¬S k):SAt w' p n ts:=fun B=>by
 obtain⟨b,o,rfl,A,hc⟩:=h B;exact⟨b,o,rfl,Nat.lt_of_lt_of_le A hk.size,fun i hi=>by rw[World.cell?_of_block (hk.block b A (hn b A))];exact hc i hi⟩
theorem Nq {base:Nat} {e:TypeId} {v:Value} (h:w.ownsRow base e 1 v ts.length (ts.map fun x=>.string (str x))):
 ∃p c,v=.slice p ts.length c∧SAt w p ts.length ts:=by
 have D:=h;have B:=h.lt;rcases h.2 with⟨rfl,A⟩|⟨g,cap,cur,rfl,hg,_,h1,h2,_⟩
 ·exact⟨none,0,by rw[A],fun E=>by omega⟩
 ·refine⟨some ⟨g,0,none⟩,cap,rfl,fun A=>⟨g,0,rfl,(B g rfl).2,fun i hi=>?_⟩⟩
  rw[Nat.zero_add,D.cellAt i (by omega),List.getElem?_map,Qd (by omega)];simp[List.getD,hi]
def uR (f:Nat→Option Nat):Nat→Option Value:=fun x=>(f x).map fun n=>.int .i64 (n:Int)
def Tv (w:World) (t:List aC) (e:Ending) (w':World):Prop:=
 ∃q d zs,e=.returned (.slice q t.length d)∧zs.map NP.m=t∧bU w' q t.length zs∧t.length≤d∧d≤maxLen∧Below w.heap.size w w'∧(∀x,q=some x→w.heap.size≤x.block)∧(∀y∈zs,∀x,y.p=some x→w.heap.size≤x.block)
structure TI (w w4 wr:World) (gt bl g B:Nat) (p:Option Addr) (n c:Nat) (ms:List aB) (S T:St) (k:Nat) (zs:List NP):Prop where
 bel:Below w.heap.size w wr
 kp:Kept (zJ gt (some bl)) w4 wr
 lay:uq wr g B p n c (look S)
 row:Rw wr gt zs
 len:zs.length=T.length
 map:jj JP wr bl (uR (leads ms T k))
 done:∀j,j<k→(zs.getD j aT).m=yp ms T (T.getD j ([],0))
 rest:∀j,k≤j→zs.getD j aT=aT
 IP:∀x∈zs,je wr x∧∀a,x.p=some a→w4.heap.size≤a.block
theorem TI.step {w4 wr W':World} {gt bl g:Nat} {ms:List aB} {S T:St} {k:Nat} {zs:List NP} (hI:TI w w4 wr gt bl g B p n c ms S T k zs) (hk:k<T.length) (E7:Kept (zJ gt (some bl)) wr W') (hb:Below w.heap.size w W')
 (hw:w.heap.size≤gt∧w.heap.size≤bl∧gt<w4.heap.size∧bl<w4.heap.size) (ay:g<w.heap.size∧B<w.heap.size) {y:NP} (bM:Rw W' gt (zs.set k y)) (D8:jj JP W' bl (uR (leads ms T (k+1)))) (hy:y.m=yp ms T (T.getD k ([],0))) (sa:je W' y) (hya:∀a,y.p=some a→w4.heap.size≤a.block):
 TI w w4 W' gt bl g B p n c ms S T (k+1) (zs.set k y):=by
 have E:k<zs.length:=by rw[hI.len];exact hk
 have off:∀b,b<w.heap.size→¬zJ gt (some bl) b:=fun b hb h=>by
  rcases h with h|h
  ·omega
  ·cases h;omega
 refine⟨hb,hI.kp.trans E7,⟨hI.lay.obj.iH E7 (off g ay.1),hI.lay.map.kept E7 (off B ay.2)⟩,bM,by rw[List.length_set];exact hI.len,D8,fun j G=>?_,fun j G=>?_,fun x A=>?_⟩
 ·rw[getSet zs k j y E]
  by_cases h:j=k
  ·rw[if_pos h,h];exact hy
  ·rw[if_neg h];exact hI.done j (by omega)
 ·rw[getSet zs k j y E,if_neg (by omega)]
  exact hI.rest j (by omega)
 ·rcases List.mem_or_eq_of_mem_set A with A|rfl
  ·obtain⟨h1,D⟩:=hI.IP x A
   refine⟨h1.kept E7 (fun _ a ha h=>?_),D⟩;have:=D a ha;rcases h with h|h
   ·omega
   ·injection h with h;omega
  ·exact⟨sa,hya⟩
theorem Vg {y:MP} (h:au W b 48 y.cs):
 W.cell? ⟨b,1,none⟩=some (.string (str y.m.target))∧W.cell? ⟨b,2,none⟩=some (.int .u8 (y.m.kind.toNat:Int))∧W.cell? ⟨b,3,none⟩=some (.int .i64 y.m.mode)∧W.cell? ⟨b,4,none⟩=some (.int .i64 y.m.uid)∧W.cell? ⟨b,5,none⟩=some (.int .i64 y.m.gid)∧W.cell? ⟨b,6,none⟩=some (.int .i64 y.m.time)∧W.cell? ⟨b,7,none⟩=some (.slice y.p y.m.body.length y.c):=
 ⟨h.cell 1,h.cell 2,h.cell 3,h.cell 4,h.cell 5,h.cell 6,h.cell 7⟩
theorem C6 (S:St) (x:List UInt8):(ob (look S) x).isSome=(look S x).isSome:=by
 unfold ob
 cases look S x<;>rfl
theorem Wj (g B:Nat) (p:Option Addr) (n c:Nat) (xs:List MP) (S:St) (w:World) (hM:jI w p n xs) (hn:n≤1000000000) (hL:uq w g B p n c (look S)) (hA:nv S) (hS:WD S n) (hsz:S.length≤1000000) (hlen:∀e∈S,e.1.length≤maxLen) (hR:∀x∈xs,x.m.body.length≤140737488351232):
 Calls Tryz.prog 61 #[.pointer (some ⟨g,0,none⟩)] w (Tv w (kT (xs.map MP.m) S)):=by
 obtain⟨i0,hi,kh,jS,jU⟩:=info_parts GX;have HI:=Qh hi;have rC:=Qh kh;have pX:=Qh jS;have pD:=Qh jU;have SU:=@run_makeMap Tryz.prog;have HM:=Qh hM;have Ij:=Qh hM.1;have HL:=Qh hL;have HA:=Qh hA;have HS:=Qh hS;have ue:=Qh hlen;have Zp:=Qh hR;have g1:=hL.obj.cell 1;simp only[Qc,Qa,Qb]at g1;have nQ:=Qh (UY B w);have jK:Below w.heap.size w (w.alloc (.cells #[.map (some B)] 99)):=(Below.refl _ _).alloc (Qk _) _;have hL1:=hL.below jK
 have ox:=Qh (Nw w.heap.size B (w.alloc (.cells #[.map (some B)] 99)) ((au.new w 99 #[.map (some B)]).cell 0) hL1.map (fun x v hv=>by
  have:x∈S.map (·.1):=(uL x).1 (by rw[←C6,hv];rfl);obtain⟨e,he,rfl⟩:=List.mem_map.1 this
  exact hlen e he) (S.map fun e:List UInt8 × Nat=>e.1) hA (fun x=>by rw[C6,uL]) (by rw[Qi];omega))
 have SH:=Qh jK;have jo:=Qh hsz;clear hi kh jS jU hM hL hA hS hlen hR hL1 jK hsz
 go_enter Tryz.func61,Tryz.ntmps61
 go_wp2_with fail
 refine nQ.out.mono ?_;rintro e w1 ⟨rfl,rfl⟩;go_wp2_with fail;refine ox.out.mono ?_;rintro e A ⟨v,ts,rfl,pN,ZZ,bM,cj⟩;obtain⟨p3,c3,rfl,aq2⟩:=Nq bM;have cB:=Qh (SH.out.trans (cj.mono SH.out.size));have XA:=Qh aq2;have Xu:=Qh (And.intro pN ZZ);have hml:ts.length=S.length:=by rw[pN.length_eq,Qi]
 have Xr:=Qh hml;obtain⟨m,hm⟩:∃m,ts.length=m:=⟨_,rfl⟩
 rw[hm]at XA Xr⊢;have HTM:=Qh hm;have QZ:m≤1000000:=by rw[←hm,hml];exact jo.out
 clear pN ZZ bM cj aq2 hml hm g1 nQ ox
 go_wp2_with (at_make;refine wpList_make_full _ rfl _ _ 22 rfl A.heap.size 52 i0 _ 9 Tryz.underlying22 HI.out rC.out pX.out .i64 .i64 _ _ m rfl rfl rfl rfl ?mk1 ?mk2 (Qk _) ?_)
 case mk1=>rw[pD.out];omega
 case mk2=>unfold maxLen;omega
 intro w3 uF aU
 have WT:=Pf (B:=A.heap.size) (w':=w3) (g:=A.heap.size) (n:=m) (by
  have h9:=uF;rw[CR]at h9
  exact h9)
 have jC:Kept ag A w3:=(Kept.refl ag A).grown aU (fun k h=>by cases h);have kW:Below A.heap.size A w3:=jC.below (Qk _) (fun _ h=>h.elim);have Zq:=Qh WT;have nP:=Qh kW;have KU:Hid (A.heap.size<w3.heap.size):=Qh (au.lt WT);clear uF aU WT jC kW;obtain⟨w4,xh⟩:∃w4,w3.alloc (.map #[] 0)=w4:=⟨_,rfl⟩
 have nE:Below w3.heap.size w3 w4:=by rw[←xh];exact(Below.refl _ _).alloc (Qk _) _
 have Yf:jj JP w4 w3.heap.size (fun _=>none):=by rw[←xh];exact qG JP w3
 have Yi:w4.heap.size=w3.heap.size+1:=by rw[←xh];simp
 obtain⟨T,hT⟩:∃T,jH S=T:=⟨_,rfl⟩
 have HT:Hid (T=ts.map fun x=>(x,(look S x).getD 0)):=Qh (by rw[←hT];exact Q8 HA.out Xu.out.1 Xu.out.2);have HTD:Hid (kT (xs.map MP.m) S=T.map (yp (xs.map MP.m) T)):=Qh (by rw[kT,hT]);have vz:Hid (T.length=m):=Qh (by rw[HT.out,Qi,HTM.out]);have si:=Qh (cB.out.trans ((nP.out.trans (nE.mono nP.out.size)).mono cB.out.size));have ak9:Hid (SAt w4 p3 m ts):=Qh (XA.out.iH (Kept.bj (nP.out.trans (nE.mono nP.out.size)) ag) (fun _ _ h=>h.elim))
 have Bh:Hid (0<m→∀a,p3=some a→a.block<A.heap.size):=Qh (fun h0 a ha=>by
  obtain⟨b,o,he,hb,_⟩:=XA.out h0;rw[ha]at he
  cases he
  exact hb)
 have HTI:Hid (TI w w4 w4 A.heap.size w3.heap.size g B p n c (xs.map MP.m) S T 0 (List.replicate m aT)):=Qh
  {bel:=si.out,kp:=Kept.refl _ _,lay:=HL.out.below si.out,row:=au.below Zq.out nE KU.out,len:=by rw[List.length_replicate,vz.out]
   map:=by
    have e:uR (leads (xs.map MP.m) T 0)=fun _=>none:=by funext n;unfold uR;rw[My];rfl
    rw[e];exact Yf
   done:=fun j hj=>by omega
   rest:=fun j _=>by
    rw[List.getD,List.getElem?_replicate];split<;>rfl
   IP:=fun x J=>by
    rw[(List.mem_replicate.1 J).2]
    exact⟨Wu _,fun a h=>by cases h⟩}
 have ab5:=Qh Yi;clear nE Yf hT Zq nP XA Yi;go_upto_region 4 with fail;clear xh SU;go_wp2_with fail
 go_loopw [6,7,8,9,10,11,24,59] (fun _ _ _ _ _ _ i _ wr=>∃(k:Nat) (zs:List NP),k≤m∧i=.int .i64 (k:Int)∧Hid (TI w w4 wr A.heap.size w3.heap.size g B p n c (xs.map MP.m) S T k zs)) (fun _ _ _ _ _ _ i _ _=>m - (RowKit.intOf i).toNat)
 case atStart=>exact⟨0,List.replicate m aT,Nat.zero_le _,rfl,HTI⟩
 case round=>
  obtain⟨k,zs,hk,rfl,E⟩:=hrel
  by_cases ay:k<m
  ·have W:k<T.length:=by rw[vz.out];exact ay
   have r:k<zs.length:=by rw[E.out.len];exact W
   have V:k<ts.length:=by rw[HTM.out];exact ay
   obtain⟨x,J⟩:∃x,ts.getD k []=x:=⟨_,rfl⟩
   have hxm:x∈ts:=by rw[←J,List.getD,Qd V];exact List.getElem_mem V
   obtain⟨G,UG⟩:=Option.isSome_iff_exists.1 ((uL x).2 (Xu.out.1.mem_iff.1 hxm))
   have M:T.getD k ([],0)=(x,G):=by
    rw[HT.out,List.getD,List.getElem?_map,Qd V];rw[List.getD,Qd V]at J;simp only[Option.getD_some]at J;simp only[Option.map_some,Option.getD_some,J,UG]
   have Md:G<n:=HS.out.look UG
   have D:w.heap.size≤A.heap.size∧w.heap.size≤w3.heap.size∧A.heap.size<w4.heap.size∧w3.heap.size<w4.heap.size:=by
    have h1:=cB.out.size;have Y:=KU.out;have h3:=ab5.out;omega
   have t:g<w.heap.size∧B<w.heap.size:=⟨HL.out.obj.lt,HL.out.map.lt⟩
   obtain⟨b3,o3,hp3,kW,Co⟩:=ak9.out (by omega);have ae3:=Bh.out (by omega) _ hp3;subst hp3
   have am7:¬zJ A.heap.size (some w3.heap.size) b3:=fun h=>by
    have h3:=KU.out;rcases h with h|h
    ·simp only at ae3;omega
    ·injection h with h;simp only at ae3;omega
   have aa9:Hid (∀W',Kept (zJ A.heap.size (some w3.heap.size)) w4 W'→∀i,i<m→W'.cell? ⟨b3,o3+i,none⟩=some (.string (str (ts.getD i [])))):=Qh (fun W' hk i hi=>by
    rw[World.cell?_of_block (hk.block b3 kW am7)];exact Co i hi)
   have z0:=aa9.out wr E.out.kp k ay;rw[J]at z0;have g0:=E.out.lay.obj.cell 0;have g1:=E.out.lay.obj.cell 1;simp only[Qc,Qa,Qb]at g0 g1
   have lk:(Instr.lookup 99 (.map (some B)) (.string (str x)) false).run Tryz.prog wr=.ok (.int .i64 (G:Int)) wr:=by
    have h:=E.out.lay.map.look (P:=Tryz.prog) Tryz.underlying99 Tryz.underlying9 (z:=.int .i64 0) (fun w=>Tryz.zeroValue3 w) x;rw[show ob (look S) x=some (.int .i64 (G:Int)) by rw[ob,UG];rfl]at h;exact h
   obtain⟨b1,o1,KI,ch,xz,Bu⟩:=(HM.out.below E.out.bel).p6 Md;subst KI;have Ug:=oD xs G;have hRY:=Zp.out _ (qS xs G (by rw[Ij.out];exact Md));obtain⟨y,hy⟩:∃y,xs.getD G cz=y:=⟨_,rfl⟩
   rw[hy]at xz Bu Ug hRY;obtain⟨c0,c1,c2,c3,c4,c5,c6,c7⟩:=Bu;obtain⟨W5,xe⟩:∃W5,wr.alloc (.cells y.cs 48)=W5:=⟨_,rfl⟩
   have DS:Below wr.heap.size wr W5:=by rw[←xe];exact(Below.refl _ _).alloc (Qk _) _
   have Z:au W5 wr.heap.size 48 y.cs:=by rw[←xe];exact au.new wr _ _
   have AU:=Qh DS;have HBM:=Qh Z;have Zk:Hid (∀w',Below W5.heap.size W5 w'→w'.cell? ⟨wr.heap.size,1,none⟩=some (.string (str y.m.target))∧w'.cell? ⟨wr.heap.size,2,none⟩=some (.int .u8 (y.m.kind.toNat:Int))∧w'.cell? ⟨wr.heap.size,3,none⟩=some (.int .i64 y.m.mode)∧w'.cell? ⟨wr.heap.size,4,none⟩=some (.int .i64 y.m.uid)∧w'.cell? ⟨wr.heap.size,5,none⟩=some (.int .i64 y.m.gid)∧w'.cell? ⟨wr.heap.size,6,none⟩=some (.int .i64 y.m.time)∧w'.cell? ⟨wr.heap.size,7,none⟩=some (.slice y.p y.m.body.length y.c)):=Qh (fun w' h=>Vg (Z.below h Z.lt));have xG:Hid (Below W5.heap.size W5 W5.drew):=Qh (below_drewN (Below.refl W5.heap.size W5) 1);have yL:Hid (∀w',Below W5.heap.size W5 w'→Calls Tryz.prog 49 #[.slice y.p y.m.body.length y.c] w' (qC w' y.m.body.length y.m.body)):=Qh (fun w' h=>sv y.p y.m.body.length y.c y.m.body w' ((xz.below DS).below h).nB rfl hRY);unfold qC at yL;have H:=Qh (And.intro W (And.intro r (And.intro M (And.intro D t))));have AV:=Qh Ug;have Xn:Hid (A.heap.size<wr.heap.size):=Qh (au.lt E.out.row);have hnz:(G:Int)<(n:Int):=by omega
   have hn0:(0:Int)≤(G:Int):=by omega
   have aK2:(k:Int)<(m:Int):=by omega
   unfold MP.cs jB at xe;have HX:=Qh J;clear W r V hxm M Md D t kW Co ae3 am7 ch xz Ug hRY hy DS Z UG J;go_upto_region 9 with fail;clear xe c0 c1 c2 c3 c4 c5 c6 c7 g0 g1 lk z0;go_wp2_with fail
   go_region_held_law (fun w'=>w'.cell? ⟨wr.heap.size,1,none⟩=some (.string (str y.m.target))∧w'.cell? ⟨wr.heap.size,2,none⟩=some (.int .u8 (y.m.kind.toNat:Int))∧w'.cell? ⟨wr.heap.size,3,none⟩=some (.int .i64 y.m.mode)∧w'.cell? ⟨wr.heap.size,4,none⟩=some (.int .i64 y.m.uid)∧w'.cell? ⟨wr.heap.size,5,none⟩=some (.int .i64 y.m.gid)∧w'.cell? ⟨wr.heap.size,6,none⟩=some (.int .i64 y.m.time)∧w'.cell? ⟨wr.heap.size,7,none⟩=some (.slice y.p y.m.body.length y.c)) (first|with_reducible exact Zk.out _ xG.out|exact Vg (Ko Xi.out (Nat.ne_of_lt Xn.out) _ _ _ _ _ _ _ _ _)) (first
    |(go_at_call 49
      refine(yL.out _ ?_).mono ?_
      (with_reducible exact xG.out)
      rintro e wa ⟨q,d,rfl,hle,ZQ,pY,vY,ZC⟩;have xG:=Qh (xG.out.trans (ZC.mono xG.out.size));have Xi:=Qh (HBM.out.below xG.out HBM.out.lt);have N:Rw wa A.heap.size zs:=au.below (au.below E.out.row AU.out Xn.out) xG.out (Nat.lt_of_lt_of_le Xn.out AU.out.size);have Gc:=Qh N;have P:=Qh (And.intro hle (And.intro ZQ (And.intro pY vY)));obtain⟨r0,r1,r2,r3,r4,r5,r6,r7,r8⟩:=N.kZ H.out.2.1;have f0:=au.frozen N (k*9);have f1:=au.frozen N (k*9+1);have f2:=au.frozen N (k*9+2);have f3:=au.frozen N (k*9+3);have f4:=au.frozen N (k*9+4);have f5:=au.frozen N (k*9+5);have f6:=au.frozen N (k*9+6);have f7:=au.frozen N (k*9+7);have f8:=au.frozen N (k*9+8)
      clear hle ZQ pY vY ZC N))
   obtain⟨W6,Ou⟩:∃W6,(((((((((wa.setCell ⟨A.heap.size,k*9,none⟩ (.string (str x))).setCell ⟨A.heap.size,k*9+1,none⟩ (.string (str y.m.target))).setCell ⟨A.heap.size,k*9+2,none⟩ (.string ⟨#[]⟩)).setCell ⟨A.heap.size,k*9+3,none⟩ (.int .u8 (y.m.kind.toNat:Int))).setCell ⟨A.heap.size,k*9+4,none⟩ (.int .i64 y.m.mode)).setCell ⟨A.heap.size,k*9+5,none⟩ (.int .i64 y.m.uid)).setCell ⟨A.heap.size,k*9+6,none⟩ (.int .i64 y.m.gid)).setCell ⟨A.heap.size,k*9+7,none⟩ (.int .i64 y.m.time)).setCell ⟨A.heap.size,k*9+8,none⟩ (.slice q y.m.body.length d))=W6:=⟨_,rfl⟩
   have OA:Kept (aA A.heap.size) wa W6:=by rw[←Ou];exact Pe (S:=aA A.heap.size) rfl _ _ _ _ _ _ _ _ _
   have ZY:Rw W6 A.heap.size (zs.set k ⟨j8 x y.m [],q,d⟩):=by rw[←Ou];exact Gc.out.set H.out.2.1 ⟨j8 x y.m [],q,d⟩
   have ZO:au W6 wr.heap.size 48 y.cs:=by rw[←Ou];exact Ko Xi.out (Nat.ne_of_lt Xn.out) _ _ _ _ _ _ _ _ _
   rw[Ou];clear Ou r0 r1 r2 r3 r4 r5 r6 r7 r8 f0 f1 f2 f3 f4 f5 f6 f7 f8;have hwa:Below wr.heap.size wr wa:=AU.out.trans (xG.out.mono AU.out.size);have Tc:Hid (Kept (zJ A.heap.size (some w3.heap.size)) wr W6):=Qh ((Kept.bj hwa _).trans (OA.mono (fun k h=>.inl h)))
   have L:Hid (∀a,q=some a→w4.heap.size≤a.block):=Qh (fun a ha=>by
    have h1:=P.out.2.2.2 a ha;have Y:=AU.out.size;have h3:=E.out.kp.size;have h4:W5.heap.size≤a.block:=h1
    omega)
   have I:Hid (je W6 ⟨j8 x y.m [],q,d⟩):=Qh ⟨P.out.2.2.1.kept OA (fun _ a ha h=>by
    have h1:=L.out a ha;have Y:a.block=A.heap.size:=h;have h3:=H.out.2.2.2.1.2.2.1
    omega),P.out.1,P.out.2.1⟩
   have wK:Hid (jj JP W6 w3.heap.size (uR (leads (xs.map MP.m) T k))):=Qh ((E.out.map.kept (Kept.bj hwa ag) (fun h=>h.elim)).kept OA (fun e=>by have h1:=KU.out;have Y:w3.heap.size=A.heap.size:=e;omega));have Tk:=Qh ZY
   have vy:Hid (yp (xs.map MP.m) T (T.getD k ([],0))=j8 x y.m (if y.m.kind=48 then ua T G else[])):=Qh (by
    rw[H.out.2.2.1];unfold yp
    rw[AV.out])
   have y2:=ZO.cell 2;have ek:=sE y.m.kind 48 48 rfl;obtain⟨kn,cn⟩:∃kn:Int,(y.m.kind.toNat:Int)=kn:=⟨_,rfl⟩
   simp only[MP.cs,jB,Qc,Qa,Qb]at y2;rw[cn]at y2 ek;clear hwa OA ZY ZO cn
   by_cases u:y.m.kind=48
   ·rw[decide_eq_true u]at ek
    have H48:=Qh u;have HKG:Hid (((xs.map MP.m).getD (T.getD k ([],0)).2 iJ).kind=48):=Qh (by rw[H.out.2.2.1,AV.out];exact u);have Ii:=Qh (wK.out.look_ok (P:=Tryz.prog) Tryz.underlying156 Tryz.underlying3 (z:=.int .i64 0) (fun w=>Tryz.zeroValue3 w) G);have O:Hid ((T.getD k ([],0)).2=G):=Qh (by rw[H.out.2.2.1]);obtain⟨fo,D6⟩:∃fo,leads (xs.map MP.m) T k G=fo:=⟨_,rfl⟩
    have DL:=Qh D6;unfold uR at Ii;rw[D6]at Ii;clear u D6
    cases fo with
    |none=>
     have lk2:(Instr.lookup 156 (.map (some w3.heap.size)) (.int .i64 (G:Int)) true).run Tryz.prog W6=.ok (.tuple #[.int .i64 0,.bool false]) W6:=Ii.out;clear Ii
     go_wp2_with (at_mapUpdate;refine jA (K:=JP) rfl (.tmp 68) (.tmp 69) (.tmp 70) rfl Tryz.underlying156 Tryz.underlying3 w3.heap.size wK.out rfl G rfl (.int .i64 (k:Int)) rfl ?_)
     intro w7 Bv zl hs7;have af1:Kept (zJ A.heap.size (some w3.heap.size)) W6 w7:=zl.out.mono (fun k h=>.inr (by rw[show k=w3.heap.size from h]));have ak2:=Qh (Tc.out.trans af1);have X:Rw w7 A.heap.size (zs.set k ⟨j8 x y.m [],q,d⟩):=au.iH Tk.out zl.out (fun e=>by have h1:=KU.out;have Y:A.heap.size=w3.heap.size:=e;omega);have z0:=aa9.out w7 (E.out.kp.trans ak2.out) k ay;rw[HX.out]at z0
     have U:jj JP w7 w3.heap.size (uR (leads (xs.map MP.m) T (k+1))):=by
      have e:=Rh H.out.1 HKG.out (by rw[O.out];exact DL.out)
      have e2:uR (leads (xs.map MP.m) T (k+1))=fun y=>if y=G then some (.int .i64 (k:Int))else uR (leads (xs.map MP.m) T k) y:=by
       funext v
       unfold uR;rw[e,O.out]
       by_cases h:v=G<;>simp[h]
      rw[e2];exact Bv.out
     have R:ua T G=x:=by
      have h:=CJ H.out.1 HKG.out;rw[O.out,DL.out,Option.getD_none,H.out.2.2.1]at h;exact h
     have HN:Hid (TI w w4 (w7.setCell ⟨A.heap.size,k*9+2,none⟩ (.string (str x))) A.heap.size w3.heap.size g B (some ⟨b1,o1,none⟩) n c (xs.map MP.m) S T (k+1) (zs.set k ⟨j8 x y.m x,q,d⟩)):=by
      have E7:Kept (zJ A.heap.size (some w3.heap.size)) wr (w7.setCell ⟨A.heap.size,k*9+2,none⟩ (.string (str x))):=ak2.out.setCell (a:=⟨A.heap.size,k*9+2,none⟩) (.inr (.inl rfl)) _;have af7:Kept (aA A.heap.size) w7 (w7.setCell ⟨A.heap.size,k*9+2,none⟩ (.string (str x))):=(Kept.refl (aA A.heap.size) _).setCell (a:=⟨A.heap.size,k*9+2,none⟩) (.inr rfl) _;obtain⟨W,r,M,D,t⟩:=H.out
      have bM:Rw (w7.setCell ⟨A.heap.size,k*9+2,none⟩ (.string (str x))) A.heap.size (zs.set k ⟨j8 x y.m x,q,d⟩):=by
       have h:=Rw.lead (k:=k) X (by rw[List.length_set];exact r) x;rw[List.set_set,getSet zs k k _ r,if_pos rfl]at h;exact h
      refine Qh (E.out.step W E7 (E.out.bel.trans (E7.below E.out.bel.size (fun b hb=>by
       rcases hb with hb|hb
       ·rw[hb];exact D.1
       ·injection hb with hb;rw[hb];exact D.2.1))) D t bM (U.kept af7 (fun e=>by have h1:=KU.out;have Y:w3.heap.size=A.heap.size:=e;omega)) ?_ ?_ ?_)
      ·rw[vy.out]
       show j8 x y.m x=_;rw[if_pos H48.out,R]
      ·exact⟨(I.out.nB.kept (af1.setCell (a:=⟨A.heap.size,k*9+2,none⟩) (.inr (.inl rfl)) _) (fun _ a ha h=>by
        have h1:=L.out a ha;rcases h with h|h
        ·omega
        ·injection h with h;omega)),I.out.le,I.out.mx⟩
      ·exact L.out
     have r2:=(X.kZ (show k<(zs.set k ⟨j8 x y.m [],q,d⟩).length by rw[List.length_set];exact H.out.2.1)).2.2.1;have f2:=au.frozen X (k*9+2);have hkm:(k:Int)<(m:Int):=by omega
     clear af1 X U R Bv zl hs7;go_wp2;go_roundw
     case rel=>exact⟨k+1,_,by omega,by go_num,HN⟩
     case measure=>simp[RowKit.intOf];omega
    |some f=>
     have hfk:=Va DL.out;have hfm:f<m:=by omega
     have lk2:(Instr.lookup 156 (.map (some w3.heap.size)) (.int .i64 (G:Int)) true).run Tryz.prog W6=.ok (.tuple #[.int .i64 (f:Int),.bool true]) W6:=Ii.out;obtain⟨l,hl⟩:∃l,ts.getD f []=l:=⟨_,rfl⟩
     have z0:=aa9.out W6 (E.out.kp.trans Tc.out) f hfm;rw[hl]at z0
     have U:jj JP W6 w3.heap.size (uR (leads (xs.map MP.m) T (k+1))):=by
      rw[Ri H.out.1 (by rw[O.out];exact DL.out)];exact wK.out
     have R:ua T G=l:=by
      have h:=CJ H.out.1 HKG.out;rw[O.out,DL.out,Option.getD_some]at h;rw[h,←hl,HT.out,List.getD,List.getD,List.getElem?_map,Qd (show f<ts.length by rw[HTM.out];exact hfm)];rfl
     have X:=Tk.out
     have HN:Hid (TI w w4 (W6.setCell ⟨A.heap.size,k*9+2,none⟩ (.string (str l))) A.heap.size w3.heap.size g B (some ⟨b1,o1,none⟩) n c (xs.map MP.m) S T (k+1) (zs.set k ⟨j8 x y.m l,q,d⟩)):=by
      have E7:Kept (zJ A.heap.size (some w3.heap.size)) wr (W6.setCell ⟨A.heap.size,k*9+2,none⟩ (.string (str l))):=Tc.out.setCell (a:=⟨A.heap.size,k*9+2,none⟩) (.inr (.inl rfl)) _;have af7:Kept (aA A.heap.size) W6 (W6.setCell ⟨A.heap.size,k*9+2,none⟩ (.string (str l))):=(Kept.refl (aA A.heap.size) _).setCell (a:=⟨A.heap.size,k*9+2,none⟩) (.inr rfl) _;obtain⟨W,r,M,D,t⟩:=H.out
      have bM:Rw (W6.setCell ⟨A.heap.size,k*9+2,none⟩ (.string (str l))) A.heap.size (zs.set k ⟨j8 x y.m l,q,d⟩):=by
       have h:=Rw.lead (k:=k) X (by rw[List.length_set];exact r) l;rw[List.set_set,getSet zs k k _ r,if_pos rfl]at h;exact h
      refine Qh (E.out.step W E7 (E.out.bel.trans (E7.below E.out.bel.size (fun b hb=>by
       rcases hb with hb|hb
       ·rw[hb];exact D.1
       ·injection hb with hb;rw[hb];exact D.2.1))) D t bM (U.kept af7 (fun e=>by have h1:=KU.out;have Y:w3.heap.size=A.heap.size:=e;omega)) ?_ ?_ ?_)
      ·rw[vy.out]
       show j8 x y.m l=_;rw[if_pos H48.out,R]
      ·exact⟨(I.out.nB.kept ((Kept.refl (zJ A.heap.size (some w3.heap.size)) W6).setCell (a:=⟨A.heap.size,k*9+2,none⟩) (.inr (.inl rfl)) _) (fun _ a ha h=>by
        have h1:=L.out a ha;rcases h with h|h
        ·omega
        ·injection h with h;omega)),I.out.le,I.out.mx⟩
      ·exact L.out
     have r2:=(X.kZ (show k<(zs.set k ⟨j8 x y.m [],q,d⟩).length by rw[List.length_set];exact H.out.2.1)).2.2.1;have f2:=au.frozen X (k*9+2);have hkm:(k:Int)<(m:Int):=by omega
     have hfz:(f:Int)<(m:Int):=by omega
     have hf0:(0:Int)≤(f:Int):=by omega
     clear X U R hl Ii;go_wp2;go_roundw
     case rel=>exact⟨k+1,_,by omega,by go_num,HN⟩
     case measure=>simp[RowKit.intOf];omega
   ·rw[decide_eq_false u]at ek
    have HN:Hid (TI w w4 W6 A.heap.size w3.heap.size g B (some ⟨b1,o1,none⟩) n c (xs.map MP.m) S T (k+1) (zs.set k ⟨j8 x y.m [],q,d⟩)):=by
     obtain⟨W,r,M,D,t⟩:=H.out
     refine Qh (E.out.step W Tc.out (E.out.bel.trans (Tc.out.below E.out.bel.size (fun b hb=>by
      rcases hb with hb|hb
      ·rw[hb];exact D.1
      ·injection hb with hb;rw[hb];exact D.2.1))) D t Tk.out ?_ ?_ I.out L.out)
     ·rw[JA W (by rw[M,AV.out];exact u)]
      exact wK.out
     ·rw[vy.out,if_neg u]
    clear u;go_wp2;go_roundw
    case rel=>exact⟨k+1,_,by omega,by go_num,HN⟩
    case measure=>simp[RowKit.intOf];omega
  ·have uh:¬((k:Int)<(m:Int)):=by omega
   have P:Hid (zs.map NP.m=kT (xs.map MP.m) S∧bU wr (some ⟨A.heap.size,0,none⟩) (kT (xs.map MP.m) S).length zs∧(kT (xs.map MP.m) S).length=m):=Qh (by
    have hl:=E.out.len;have hkm:k=T.length:=by rw[vz.out];omega
    have e:zs.map NP.m=kT (xs.map MP.m) S:=by
     rw[HTD.out];apply List.ext_getElem
     ·rw[Qi,Qi,hl]
     ·intro i h1 Y
      rw[Qi]at h1 Y;have:=E.out.done i (by omega);rw[List.getD,Qd h1,List.getD,Qd Y]at this
      simpa using this
    have hlen:(kT (xs.map MP.m) S).length=m:=by rw[HTD.out,Qi,vz.out]
    refine⟨e,?_,hlen⟩;have:=E.out.row.nodes (fun x J=>(E.out.IP x J).1);rw[hl,vz.out]at this
    rw[hlen];exact this)
   go_wp2;go_ret;refine⟨some ⟨A.heap.size,0,none⟩,m,zs,by rw[P.out.2.2];rfl,P.out.1,P.out.2.1,by rw[P.out.2.2];exact Qk _,by unfold maxLen;omega,E.out.bel,fun x J=>?_,fun y hy x J=>?_⟩
   ·cases J
    exact cB.out.size
   ·exact Nat.le_trans si.out.size ((E.out.IP y hy).2 x J)
end kY
namespace DY
open Mk Mem kY
variable {m:aB}
theorem Y1 {g n:Nat} (h:w'.ownsRow B 48 8 (.slice (some ⟨g,0,none⟩) n n) n (madeCells #[.string ⟨#[]⟩,.string ⟨#[]⟩,.int .u8 0,.int .i64 0,.int .i64 0,.int .i64 0,.int .i64 0,.slice none 0 0] (n*8)).toList):Rm w' g (List.replicate n cz):=by
 rcases h.2 with⟨h1,_⟩|⟨g',cap,cur,h1,_,hg,h2,h3,h4,h5⟩
 ·cases h1
 ·cases h1
  refine⟨cur,hg,by rw[List.length_replicate];omega,fun i hi j D=>?_⟩;rw[List.length_replicate]at hi
  have e:(List.replicate n cz).getD i cz=cz:=by
   rw[List.getD,List.getElem?_replicate,if_pos hi];rfl
  have A:cur.toList[8*i+j]? =(madeCells #[Value.string ⟨#[]⟩,.string ⟨#[]⟩,.int .u8 0,.int .i64 0,.int .i64 0,.int .i64 0,.int .i64 0,.slice none 0 0] (n*8)).toList[8*i+j]? :=by
   rw[←h5,List.getElem?_take,if_pos (by omega)]
  rw[e,←Array.getElem?_toList,A,Array.getElem?_toList];unfold madeCells;rw[Array.getElem?_map,Array.getElem?_range,if_pos (by omega)];simp only[Option.map_some];rw[show(8*i+j) % (#[Value.string ⟨#[]⟩,.string ⟨#[]⟩,.int .u8 0,.int .i64 0,.int .i64 0,.int .i64 0,.int .i64 0,.slice none 0 0]:Array Value).size=j by show(8*i+j) % 8=j;omega]
  match j,D with
  |0,_=>rfl
  |1,_=>rfl
  |2,_=>rfl
  |3,_=>rfl
  |4,_=>rfl
  |5,_=>rfl
  |6,_=>rfl
  |7,_=>rfl
theorem Hs {g:Nat} {ys:List MP} (h:Rm W g ys) {k j:Nat} (hk:k<ys.length) (hj:j<8) (u:Value) (y:MP) (hy:∀i,i<8→y.cs[i]? =if i=j then some u else(ys.getD k cz).cs[i]?):Rm (W.setCell ⟨g,k*8+j,none⟩ u) g (ys.set k y):=by
 obtain⟨cur,D,hs,hc⟩:=h;refine⟨cur.setIfInBounds (k*8+j) u,aW D _ u,by rw[List.length_set];simpa using hs,fun i hi l hl=>?_⟩;rw[List.length_set]at hi;rw[vF ys k i y hk,Array.getElem?_setIfInBounds]
 by_cases B:i=k
 ·subst B
  rw[if_pos rfl,hy l hl]
  by_cases A:l=j
  ·subst A
   rw[if_pos (by omega),if_pos (by omega),if_pos rfl]
  ·rw[if_neg (by omega),if_neg A,hc i hi l hl]
 ·rw[if_neg B,if_neg (by omega),hc i hi l hl]
theorem Y0 {g:Nat} {ys:List MP} {k:Nat} (h:Rm W g (ys.set k ⟨m,p,c⟩)) (hk:k<ys.length) (l:List UInt8):
 Rm ((W.setCell ⟨g,k*8+2,none⟩ (.int .u8 49)).setCell ⟨g,k*8+1,none⟩ (.string (str l))) g (ys.set k ⟨{m with kind:=49,target:=l},p,c⟩):=by
 have B:k<(ys.set k ⟨m,p,c⟩).length:=by rw[List.length_set];exact hk
 have h1:=Hs h B (j:=2) (by omega) (.int .u8 49) ⟨{m with kind:=49},p,c⟩ (fun i hi=>by
  rw[vF ys k k _ hk,if_pos rfl]
  match i,hi with
  |0,_=>rfl
  |1,_=>rfl
  |2,_=>rfl
  |3,_=>rfl
  |4,_=>rfl
  |5,_=>rfl
  |6,_=>rfl
  |7,_=>rfl)
 rw[List.set_set]at h1
 have A:=Hs h1 (k:=k) (j:=1) (by rw[List.length_set];exact hk) (by omega) (.string (str l)) ⟨{m with kind:=49,target:=l},p,c⟩ (fun i hi=>by
  rw[vF ys k k _ hk,if_pos rfl]
  match i,hi with
  |0,_=>rfl
  |1,_=>rfl
  |2,_=>rfl
  |3,_=>rfl
  |4,_=>rfl
  |5,_=>rfl
  |6,_=>rfl
  |7,_=>rfl)
 rw[List.set_set]at A;exact A
theorem VY {g:Nat} {ys:List MP} {k:Nat} (h:Rm W g (ys.set k ⟨m,p,c⟩)) (hk:k<ys.length) (b:List UInt8) (q:Option Addr) (d:Nat):
 Rm (W.setCell ⟨g,k*8+7,none⟩ (.slice q b.length d)) g (ys.set k ⟨{m with body:=b},q,d⟩):=by
 have A:k<(ys.set k ⟨m,p,c⟩).length:=by rw[List.length_set];exact hk
 have h1:=Hs h A (j:=7) (by omega) (.slice q b.length d) ⟨{m with body:=b},q,d⟩ (fun i hi=>by
  rw[vF ys k k _ hk,if_pos rfl]
  match i,hi with
  |0,_=>rfl
  |1,_=>rfl
  |2,_=>rfl
  |3,_=>rfl
  |4,_=>rfl
  |5,_=>rfl
  |6,_=>rfl
  |7,_=>rfl)
 rw[List.set_set]at h1;exact h1
theorem TV (w:World) (m:aB) (h:m.body=[]):js w ⟨m,none,0⟩:=by
 refine⟨?_,?_,Nat.zero_le _⟩
 ·show iC w none m.body.length m.body
  rw[h];exact iC.none_ w none
 ·show m.body.length≤0
  rw[h];exact Qk _
structure Iz (w w2 w4 wr:World) (M g:Nat) (t:List aC) (os:List (List UInt8)) (n k:Nat) (ys:List MP):Prop where
 bel:Below w2.heap.size w2 wr
 kp:w4.heap.size≤wr.heap.size
 map:jj p8 wr M (ob (iZ t os k))
 row:Rm wr g ys
 len:ys.length=n
 done:∀i,i<k→(ys.getD i cz).m=km t os i
 IP:∀y∈ys,js wr y∧∀a,y.p=some a→w4.heap.size≤a.block
section
variable {w w2 w4 wr W':World} {M g n k:Nat} {t:List aC} {os:List (List UInt8)} {ys:List MP}
theorem Iz.step (h:Iz w w2 w4 wr M g t os n k ys) (hk:k<n) (E7:Kept (zJ g (some M)) wr W') (hg:w2.heap.size≤g∧g<w4.heap.size∧w2.heap.size≤M∧M<w4.heap.size)
 {y:MP} (bM:Rm W' g (ys.set k y)) (D8:jj p8 W' M (ob (iZ t os (k+1)))) (hy:y.m=km t os k) (sa:js W' y) (hya:∀a,y.p=some a→w4.heap.size≤a.block):
 Iz w w2 w4 W' M g t os n (k+1) (ys.set k y):=by
 have D:k<ys.length:=by rw[h.len];exact hk
 refine⟨h.bel.trans (E7.below h.bel.size (fun b hb=>?_)),Nat.le_trans h.kp E7.size,D8,bM,by rw[List.length_set];exact h.len,fun j E=>?_,fun x A=>?_⟩
 ·rcases hb with hb|hb
  ·rw[hb];exact hg.1
  ·injection hb with hb;rw[hb];exact hg.2.2.1
 ·rw[vF ys k j y D]
  by_cases h1:j=k
  ·rw[if_pos h1,h1];exact hy
  ·rw[if_neg h1];exact h.done j (by omega)
 ·rcases List.mem_or_eq_of_mem_set A with A|rfl
  ·obtain⟨h1,B⟩:=h.IP x A
   refine⟨h1.kept E7 (fun _ a ha e=>?_),B⟩;have:=B a ha;rcases e with e|e
   ·omega
   ·injection e with e;omega
  ·exact⟨sa,hya⟩
end
theorem Vd {t:List aC} {os:List (List UInt8)} (hg:ja t=true) (ho:jh t os):lmD t os=(kB t os,0):=by
 unfold lmD;rw[if_pos ((C8 hg os).2 ho)]
theorem ar2 {t:List aC} {os:List (List UInt8)} (hg:ja t=true) (ho:¬jh t os):lmD t os=([],1):=by
 unfold lmD;rw[if_neg (fun h=>ho ((C8 hg os).1 h))]
theorem G6 (w:World) (p:Option Addr) (n c:Nat) (xs:List NP) (a:Option Addr) (m d:Nat) (os:List (List UInt8)) (hN:xI w p n c xs) (hO:N8 w a m d os):
 Calls Tryz.prog 21 #[.slice p n c,.slice a m d] w (xH w (lmD (xs.map NP.m) os)):=by
 obtain⟨i0,hi,kh,jS,jU⟩:=info_parts GV;have HI:=Qh hi;have rC:=Qh kh;have pX:=Qh jS;have pD:=Qh jU;have SU:=@run_makeMap Tryz.prog;have H:=Qh (Jq w p n c xs a m d os hN hO);have ao1:=hN.few;have HG:=Qh hN.ad6;have HO:=Qh hO.at_;have Zp:=Qh hN.room;have HXA:=Qh hN.at_.2.1;obtain⟨t,ht⟩:∃t,xs.map NP.m=t:=⟨_,rfl⟩
 have HT:=Qh ht;unfold N5 at H;rw[ht]at H HG⊢;clear hi kh jS jU hN hO ht
 go_enter Tryz.func21,Tryz.ntmps21
 go_wp2_with fail
 refine H.out.mono ?_;rintro e A (⟨q,zs,rfl,htk,hzl,hol,xg,UH,cj⟩|⟨rfl,oH,cj⟩)
 ·have HTK:=Qh htk
  have SI:=Qh hzl;have WA:=Qh hol;have vy:=Qh xg;have Z:=Qh UH;have cB:=Qh cj;clear htk hzl hol xg UH cj H
  go_wp2_with (at_make;refine wpList_make_full _ rfl _ _ 38 rfl A.heap.size 48 i0 _ 8 Tryz.underlying38 HI.out rC.out pX.out .i64 .i64 _ _ n rfl rfl rfl rfl (by rw[pD.out];omega) (by unfold maxLen;omega) (Qk _) ?_)
  intro w3 uF aU;have WT:Rm w3 A.heap.size (List.replicate n cz):=Y1 (B:=A.heap.size) uF;have jC:Kept ag A w3:=(Kept.refl ag A).grown aU (fun k h=>by cases h);have kW:Below A.heap.size A w3:=jC.below (Qk _) (fun _ h=>h.elim)
  have aB5:A.heap.size<w3.heap.size:=by
   obtain⟨cur,hc,_⟩:=WT;exact hc.lt
  obtain⟨w4,xh⟩:∃w4,w3.alloc (.map #[] 0)=w4:=⟨_,rfl⟩
  have nE:Below w3.heap.size w3 w4:=by rw[←xh];exact(Below.refl _ _).alloc (Qk _) _
  have Yf:jj p8 w4 w3.heap.size (fun _=>none):=by rw[←xh];exact qG p8 w3
  have Yi:w4.heap.size=w3.heap.size+1:=by rw[←xh];simp
  have HMB:Hid (Iz w A w4 w4 w3.heap.size A.heap.size t os n 0 (List.replicate n cz)):=Qh
   {bel:=kW.trans (nE.mono kW.size)
    kp:=Qk _
    map:=by
     have e:ob (iZ t os 0)=fun _=>none:=by funext l;rfl
     rw[e];exact Yf
    row:=Dr WT nE
    len:=by simp
    done:=fun i hi=>by omega
    IP:=fun y hy=>by
     rw[(List.mem_replicate.1 hy).2]
     exact⟨TV _ aa4 rfl,fun a h=>by cases h⟩}
  have O:Hid (A.heap.size≤A.heap.size∧A.heap.size<w4.heap.size∧A.heap.size≤w3.heap.size∧w3.heap.size<w4.heap.size):=Qh ⟨Qk _,by omega,by omega,by omega⟩;obtain⟨M,hM⟩:∃M,w3.heap.size=M:=⟨_,rfl⟩
  rw[hM]at HMB O;clear uF aU WT jC kW nE Yf Yi aB5;go_upto_region 6 with fail;clear xh SU hM;go_wp2_with fail
  go_loopw [10,11,12,13,28] (fun _ _ _ _ i wr=>∃(k:Nat) (ys:List MP),k≤n∧i=.int .i64 (k:Int)∧Hid (Iz w A w4 wr M A.heap.size t os n k ys)) (fun _ _ _ _ i _=>n - (RowKit.intOf i).toNat)
  case atStart=>exact⟨0,_,Nat.zero_le _,rfl,HMB⟩
  case round=>
   obtain⟨k,ys,hk,rfl,G⟩:=hrel
   by_cases ay:k<n
   ·have uj:k<ys.length:=by rw[G.out.len];exact ay
    obtain⟨b1,o1,rfl,ch,xz,hc⟩:=(vy.out.below G.out.bel).kZ ay;have kj:=zH HTK.out ay;obtain⟨v,hv⟩:∃v,zs.getD k aT=v:=⟨_,rfl⟩
    rw[hv]at xz hc kj;have rD:v∈xs:=List.mem_of_find?_eq_some kj
    have hnd:nodeAt t (os.getD k [])=v.m:=by
     unfold nodeAt;rw[←HT.out,←ze,kj];rfl
    have vI:=oa HG.out (x:=v.m) (by rw[←HT.out];exact List.mem_map.2 ⟨v,rD,rfl⟩);have hrm:=Zp.out v rD;have HXB:=Qh (HXA.out v rD);obtain⟨c0,c1,c2,c3,c4,c5,c6,c7,c8⟩:=hc;obtain⟨W5,xe⟩:∃W5,wr.alloc (.cells v.cs 52)=W5:=⟨_,rfl⟩
    have DS:Below wr.heap.size wr W5:=by rw[←xe];exact(Below.refl _ _).alloc (Qk _) _
    have R:au W5 wr.heap.size 52 v.cs:=by rw[←xe];exact au.new wr _ _
    have hM5:=G.out.map.kept (Kept.bj DS ag) (fun h=>h.elim);have J:=Dr G.out.row DS;have hgw:A.heap.size<wr.heap.size:=by have h1:=O.out.2.1;have U:=G.out.kp;omega
    have HGW:=Qh hgw;unfold NP.cs tH at xe;have ek:=CB v.m.kind 48 48 rfl;obtain⟨kn,cn⟩:∃kn:Int,(v.m.kind.toNat:Int)=kn:=⟨_,rfl⟩
    have ou:=Qh cn;have z0:=R.cell 0;have z1:=R.cell 1;have z3:=R.cell 3;have z4:=R.cell 4;have z5:=R.cell 5;have z6:=R.cell 6;have z7:=R.cell 7;simp only[NP.cs,tH,Qc,Qa,Qb]at z0 z1 z3 z4 z5 z6 z7;rw[cn]at xe c3 z3 ek;obtain⟨r0,r1,r2,r3,r4,r5,r6,r7⟩:=J.p6 uj
    have D:∀i,W5.frozen? ⟨A.heap.size,i,none⟩=false:=fun i=>by
     obtain⟨cur,hc,_⟩:=J;exact hc.frozen i
    have f0:=D (k*8);have f1:=D (k*8+1);have f2:=D (k*8+2);have f3:=D (k*8+3);have f4:=D (k*8+4);have f5:=D (k*8+5);have f6:=D (k*8+6);have f7:=D (k*8+7);have AU:=Qh DS;have HBN:=Qh R;have qD:=Qh hM5;have KT:=Qh J;have T:=Qh hnd;have HGD:=Qh vI;have HRM:=Qh hrm;have sU:=Qh xz;have Td:=Qh uj;have qX:(k:Int)<(n:Int):=by omega
    clear uj ch xz kj hv rD hnd vI hrm DS R hM5 J hgw cn D;go_upto_region 9 with fail;clear xe c0 c1 c2 c3 c4 c5 c6 c7 c8;go_upto_region 10 with fail;obtain⟨W6,Ou⟩:∃W6,((((((((W5.setCell ⟨A.heap.size,k*8,none⟩ (.string (str v.m.path))).setCell ⟨A.heap.size,k*8+1,none⟩ (.string (str v.m.target))).setCell ⟨A.heap.size,k*8+2,none⟩ (.int .u8 kn)).setCell ⟨A.heap.size,k*8+3,none⟩ (.int .i64 v.m.mode)).setCell ⟨A.heap.size,k*8+4,none⟩ (.int .i64 v.m.uid)).setCell ⟨A.heap.size,k*8+5,none⟩ (.int .i64 v.m.gid)).setCell ⟨A.heap.size,k*8+6,none⟩ (.int .i64 v.m.time)).setCell ⟨A.heap.size,k*8+7,none⟩ (.slice none 0 0))=W6:=⟨_,rfl⟩
    obtain⟨mv,r⟩:∃mv:aB,(⟨v.m.path,v.m.target,v.m.kind,v.m.mode,v.m.uid,v.m.gid,v.m.time,[]⟩:aB)=mv:=⟨_,rfl⟩
    have u:YU W5 A.heap.size (k*8) ⟨mv,none,0⟩=W6:=by
     rw[←Ou,←r,←ou.out];rfl
    have ZY:Rm W6 A.heap.size (ys.set k ⟨mv,none,0⟩):=by rw[←u];exact KT.out.set Td.out ⟨mv,none,0⟩
    have Yb:Kept (aA A.heap.size) W5 W6:=by rw[←u];exact RO (S:=aA A.heap.size) rfl _
    have o:A.heap.size≠M:=by
     obtain⟨cur,hc,_⟩:=KT.out;exact uz hc qD.out
    have OA:Kept (zJ A.heap.size (some M)) wr W6:=(Kept.bj AU.out _).trans (Yb.mono (fun b h=>.inl h));have L:au W6 wr.heap.size 52 v.cs:=HBN.out.iH Yb (fun e=>by have h1:=HGW.out;have U:wr.heap.size=A.heap.size:=e;omega);have ZO:jj p8 W6 M (ob (iZ t os k)):=qD.out.kept Yb (fun e=>o (show M=A.heap.size from e).symm);have I:=Qh r;have Tk:=Qh ZY;have Tb:=Qh OA;have HN6:=Qh L;have wK:=Qh ZO;have Y:=Qh o;have y2:W6.cell? ⟨wr.heap.size,2,none⟩=some (.string (str v.m.ao)):=L.cell 2;have y3:W6.cell? ⟨wr.heap.size,3,none⟩=some (.int .u8 kn):=by rw[←ou.out];exact L.cell 3
    rw[Ou];clear Ou u ZY Yb OA L ZO o r r0 r1 r2 r3 r4 r5 r6 r7 f0 f1 f2 f3 f4 f5 f6 f7 z0 z1 z3 z4 z5 z6 z7;have hBZ:mv.body=[]:=by rw[←I.out]
    have HBZ:=Qh hBZ;clear hBZ
    by_cases V:v.m.kind=48
    ·rw[decide_eq_true V,Bool.not_true]at ek
     have X:Hid ((nodeAt t (os.getD k [])).kind=48):=Qh (by rw[T.out];exact V);have lk:=wK.out.look_ok (P:=Tryz.prog) Tryz.underlying99 Tryz.underlying9 (z:=.int .i64 0) (fun w=>Tryz.zeroValue3 w) v.m.ao;obtain⟨fo,D6⟩:∃fo,iZ t os k v.m.ao=fo:=⟨_,rfl⟩
     have DL:Hid (iZ t os k (nodeAt t (os.getD k [])).ao=fo):=Qh (by rw[T.out];exact D6);unfold ob at lk;rw[D6]at lk;clear V D6
     cases fo with
     |some f=>
      have lk2:(Instr.lookup 99 (.map (some M)) (.string (str v.m.ao)) true).run Tryz.prog W6=.ok (.tuple #[.int .i64 (f:Int),.bool true]) W6:=lk;have hfk:f<k:=I6 DL.out;have hmn:m=n:=by rw[←HO.out.1,WA.out]
      have am5:Below A.heap.size A W6:=G.out.bel.trans (Tb.out.below G.out.bel.size (fun b hb=>by
       rcases hb with hb|hb
       ·rw[hb];exact Qk _
       ·injection hb with hb;rw[hb];exact O.out.2.2.1))
      obtain⟨b3,o3,rfl,kW,Co⟩:=((HO.out.below cB.out).below am5).2 (by omega);have q0:=Co f (by omega);obtain⟨s,hs⟩:∃s,os.getD f []=s:=⟨_,rfl⟩
      rw[hs]at q0;have HS:=Qh hs;have UC:k<(ys.set k ⟨mv,none,0⟩).length:=by rw[List.length_set];exact Td.out
      obtain⟨r0,r1,r2,r3,r4,r5,r6,r7⟩:=Tk.out.p6 UC
      have D:∀i,W6.frozen? ⟨A.heap.size,i,none⟩=false:=fun i=>by
       obtain⟨cur,hc,_⟩:=Tk.out;exact hc.frozen i
      have f1:=D (k*8+1);have f2:=D (k*8+2);have aJ4:(0:Int)≤(f:Int):=by omega
      have aJ5:(f:Int)<(m:Int):=by omega
      clear lk hfk hmn am5 kW Co hs UC D r0 r3 r4 r5 r6 r7;go_upto_region 16 with fail;obtain⟨W7,SN⟩:∃W7,(W6.setCell ⟨A.heap.size,k*8+2,none⟩ (.int .u8 49)).setCell ⟨A.heap.size,k*8+1,none⟩ (.string (str s))=W7:=⟨_,rfl⟩
      have Mf:Rm W7 A.heap.size (ys.set k ⟨{mv with kind:=49,target:=s},none,0⟩):=by rw[←SN];exact Y0 Tk.out Td.out s
      have W:Kept (aA A.heap.size) W6 W7:=by rw[←SN];exact((Kept.refl (aA A.heap.size) W6).setCell (a:=⟨A.heap.size,k*8+2,none⟩) (.inr rfl) _).setCell (a:=⟨A.heap.size,k*8+1,none⟩) (.inr rfl) _
      have HN:Hid (Iz w A w4 W7 M A.heap.size t os n (k+1) (ys.set k ⟨{mv with kind:=49,target:=s},none,0⟩)):=Qh
       (G.out.step ay (Tb.out.trans (W.mono (fun b h=>.inl h))) O.out Mf (by
        rw[QE DL.out]
        exact wK.out.kept W (fun e=>Y.out (show M=A.heap.size from e).symm))
        (by rw[Yz X.out DL.out,T.out,HS.out,←I.out];rfl) (TV _ _ HBZ.out) (fun a h=>by cases h))
      rw[SN];clear SN Mf W r1 r2 f1 f2;go_wp2;go_roundw
      case rel=>exact⟨k+1,_,by omega,by go_num,HN⟩
      case measure=>simp[RowKit.intOf];omega
     |none=>
      have lk2:(Instr.lookup 99 (.map (some M)) (.string (str v.m.ao)) true).run Tryz.prog W6=.ok (.tuple #[.int .i64 0,.bool false]) W6:=lk;clear lk
      go_wp2_with (at_mapUpdate;refine jA (K:=p8) rfl (.tmp 68) (.tmp 70) (.tmp 71) rfl Tryz.underlying99 Tryz.underlying9 M wK.out rfl v.m.ao rfl (.int .i64 (k:Int)) rfl ?_)
      intro w7 Bv W hs7
      have ZP:jj p8 w7 M (ob (iZ t os (k+1))):=by
       have e:ob (iZ t os (k+1))=fun z=>if z=v.m.ao then some (.int .i64 (k:Int))else ob (iZ t os k) z:=by
        funext z
        unfold ob;rw[QD X.out DL.out,T.out]
        by_cases h:z=v.m.ao<;>simp[h]
       rw[e];exact Bv.out
      have g:Kept (zJ A.heap.size (some M)) wr w7:=Tb.out.trans (W.out.mono (fun b h=>.inr (by rw[show b=M from h])))
      have am6:Below A.heap.size A w7:=G.out.bel.trans (g.below G.out.bel.size (fun b hb=>by
       rcases hb with hb|hb
       ·rw[hb];exact Qk _
       ·injection hb with hb;rw[hb];exact O.out.2.2.1))
      have hn7:au w7 wr.heap.size 52 v.cs:=HN6.out.iH W.out (fun e=>by have h1:=O.out.2.2.2;have U:wr.heap.size=M:=e;have h3:=G.out.kp;omega)
      have Mf:Rm w7 A.heap.size (ys.set k ⟨mv,none,0⟩):=by
       obtain⟨cur,hc,U,h3⟩:=Tk.out;exact⟨cur,hc.iH W.out Y.out,U,h3⟩
      have ye:=sv v.p v.m.body.length v.c v.m.body w7 ((HXB.out.below cB.out).below am6).nB rfl HRM.out.2.2.2;have y8:w7.cell? ⟨wr.heap.size,8,none⟩=some (.slice v.p v.m.body.length v.c):=hn7.cell 8;have ak4:=Qh ZP;have ak3:=Qh g;have Tl:=Qh Mf;have yL:=Qh ye;clear Bv W hs7 ZP g am6 hn7 Mf ye y2 y3 lk2;go_wp2_with fail;refine yL.out.mono ?_;rintro e w8 ⟨q8,d8,rfl,hle,ZQ,pY,vY,QP⟩;have N:=Dr Tl.out QP;have UC:k<(ys.set k ⟨mv,none,0⟩).length:=by rw[List.length_set];exact Td.out
      obtain⟨r0,r1,r2,r3,r4,r5,r6,r7⟩:=N.p6 UC
      have f7:w8.frozen? ⟨A.heap.size,k*8+7,none⟩=false:=by
       obtain⟨cur,hc,_⟩:=N;exact hc.frozen _
      have aC9:=ak3.out.size
      have hq8:∀x,q8=some x→w4.heap.size≤x.block:=fun x hx=>by
       have h1:=vY x hx;have U:=G.out.kp;omega
      have HN:Hid (Iz w A w4 (w8.setCell ⟨A.heap.size,k*8+7,none⟩ (.slice q8 v.m.body.length d8)) M A.heap.size t os n (k+1) (ys.set k ⟨{mv with body:=v.m.body},q8,d8⟩)):=by
       have uh:Kept (aA A.heap.size) w8 (w8.setCell ⟨A.heap.size,k*8+7,none⟩ (.slice q8 v.m.body.length d8)):=(Kept.refl (aA A.heap.size) w8).setCell (a:=⟨A.heap.size,k*8+7,none⟩) (.inr rfl) _
       refine Qh (G.out.step ay ((ak3.out.trans (Kept.bj QP _)).trans (uh.mono (fun b h=>.inl h))) O.out (VY N Td.out v.m.body q8 d8)
        ((ak4.out.kept (Kept.bj QP ag) (fun h=>h.elim)).kept uh (fun e=>Y.out (show M=A.heap.size from e).symm))
        (by rw[Yy X.out DL.out,T.out,←I.out];rfl) ⟨pY.kept uh (fun _ x hx e=>?_),hle,ZQ⟩ hq8)
       have h1:=hq8 x hx;have U:=O.out.2.1;have h3:x.block=A.heap.size:=e;omega
      clear hle ZQ pY vY QP N UC aC9 hq8 r0 r1 r2 r3 r4 r5 r6;go_wp2;go_roundw
      case rel=>exact⟨k+1,_,by omega,by go_num,HN⟩
      case measure=>simp[RowKit.intOf];omega
    ·rw[decide_eq_false V,Bool.not_false]at ek
     have HN:Hid (Iz w A w4 W6 M A.heap.size t os n (k+1) (ys.set k ⟨mv,none,0⟩)):=Qh
      (G.out.step ay Tb.out O.out Tk.out (by rw[I7 (by rw[T.out];exact V)];exact wK.out)
       (by
        rw[Ru (by rw[T.out];exact V),T.out,←I.out];unfold aC.mem
        rw[Lu HGD.out.2.1 V]) (TV _ _ HBZ.out) (fun a h=>by cases h))
     clear V;go_wp2;go_roundw
     case rel=>exact⟨k+1,_,by omega,by go_num,HN⟩
     case measure=>simp[RowKit.intOf];omega
   ·obtain rfl:k=n:=by omega
    have uh:¬((k:Int)<(k:Int)):=by omega
    have F:Hid (xH w (kB t os,0) (.returned (.tuple #[.slice (some ⟨A.heap.size,0,none⟩) k k,.int .i64 0])) wr):=Qh (by
     have hl:(kB t os).length=k:=by rw[xk Z.out,WA.out]
     have hm:ys.map MP.m=kB t os:=by
      apply List.ext_getElem
      ·rw[Qi,G.out.len,hl]
      ·intro i h1 U
       rw[Qi]at h1;have h3:=G.out.done i (by rw[←G.out.len];exact h1);have h4:=tF Z.out (show i<os.length by rw[WA.out,←G.out.len];exact h1);rw[XU h1]at h3;rw[List.getElem_map,h3,←h4,List.getD,Qd U];rfl
     have SU:=G.out.row.aD1 (fun y hy=>(G.out.IP y hy).1);rw[G.out.len]at SU
     refine⟨some ⟨A.heap.size,0,none⟩,k,ys,by rw[hl],hm,by rw[hl];exact SU,by rw[hl];exact Qk _,by unfold maxLen;omega,cB.out.trans (G.out.bel.mono cB.out.size)⟩)
    have E:Hid (lmD t os=(kB t os,0)):=Qh (Vd HG.out Z.out);go_wp2;go_ret2;rw[E.out];exact F.out
 ·have E:Hid (lmD t os=([],1)):=Qh (ar2 HG.out oH)
  have HB:=Qh cj;clear oH cj;go_wp2;go_ret2;unfold xH;rw[E.out];exact⟨none,0,[],rfl,rfl,yo _ _,Qk _,by decide,HB.out⟩
end DY
namespace kY
open Mk Mem
def BM (w:World) (ms:List aB) (e:Ending) (w':World):Prop:=
 ∃q d zs,e=.returned (.tuple #[.slice q (kH ms).1.length d,.agg #[.int .i64 (kH ms).2.1,.int .i64 ((kH ms).2.2:Int)]])∧zs.map NP.m=(kH ms).1∧bU w' q (kH ms).1.length zs∧(kH ms).1.length≤d∧d≤maxLen∧Below w.heap.size w w'∧(∀x,q=some x→w.heap.size≤x.block)∧(∀y∈zs,∀x,y.p=some x→w.heap.size≤x.block)
theorem EY {ms:List aB} {i:Int} {k:Nat} (h:kH ms=([],e,k)) (hb:Below w.heap.size w w') (hi:i=(k:Int)):BM w ms (.returned (.tuple #[.slice none 0 0,.agg #[.int .i64 e,.int .i64 i]])) w':=
 ⟨none,0,[],by rw[h,hi];rfl,by rw[h];rfl,by rw[h];exact zt _ _,by rw[h];exact Qk _,by decide,hb,(fun x A=>by cases A),(fun y hy=>by cases hy)⟩
theorem Ss (p:Option Addr) (n c:Nat) (xs:List MP) (w:World) (hM:jI w p n xs) (hn:n≤1000000) (hF:Zj xs) (hR:∀x∈xs,x.m.body.length≤140737488351232) (hT:Path.Tabs w):
 Calls Tryz.prog 26 #[.slice p n c] w (BM w (xs.map MP.m)):=by
 obtain⟨W,hW⟩:∃W,w.alloc (.cells #[.int .i64 0,.int .i64 0] 32)=W:=⟨_,rfl⟩
 have wD:Below w.heap.size w W:=by rw[←hW];exact(Below.refl _ _).alloc (Qk _) _
 have D5:au W w.heap.size 32 #[.int .i64 0,.int .i64 0]:=by rw[←hW];exact au.new w _ _
 have Ta:=Qh (zn p n c xs W (hM.below wD) (by omega) hF (hT.below wD));have HM:=Qh hM;have U:=Qh hM.1;have HF:=Qh hF;have HR:=Qh hR;have nG:=Qh wD;have sj:=Qh D5;obtain⟨bo,M⟩:∃bo,qO (xs.map MP.m)=bo:=⟨_,rfl⟩
 rw[M]at Ta;have G:=Qh M;clear hM hF hR hT wD D5 M
 go_enter Tryz.func26,Tryz.ntmps26
 go_upto_region 1 with fail
 clear hW;go_wp2_with fail;refine Ta.out.mono ?_;rintro e w1 ⟨rfl,ch⟩;have iA:=Qh (nG.out.trans (ch.mono nG.out.size));have R:=sj.out.below ch sj.out.lt;have oX:=Qh R;have x0:=R.cell 0;have O:=R.cell 1;have f0:=R.frozen 0;have f1:=R.frozen 1;simp only[Qc,Qa,Qb]at x0 O;clear ch R Ta
 cases bo with
 |some i=>
  have SS:(0:Int)≤(i:Int):=by omega
  simp only[ag6];go_wp2;refine bodyPost_ret (ry rfl _ _ w.heap.size _ rfl rfl 1 (i:Int) (qi oX.out _ _)) rfl ?_;exact EY (EX G.out) ((iA.out.setCell (p:=⟨w.heap.size,0,none⟩) (Qk _) _).setCell (p:=⟨w.heap.size,1,none⟩) (Qk _) _) rfl
 |none=>
  simp only[ag6];clear x0 O f0 f1;have V:=Qh (MN p n c w1);go_wp2_with fail;refine V.out.mono ?_;rintro e w2 ⟨g,B,rfl,hL,hg,hB,cj⟩;have cB:=Qh (iA.out.trans (cj.mono iA.out.size));have pH:=Qh (oX.out.below cj oX.out.lt);have H:=Qh (And.intro hg hB);have AW:=Qh hL;have J:Hid (w.heap.size<w1.heap.size):=Qh oX.out.lt;clear hL hg hB cj V;go_wp2_with fail
  go_loopw [6,17] (fun _ i wr=>∃(k:Nat) (S:St),k≤n∧i=.int .i64 (k:Int)∧Hid (kJ (xs.map MP.m) k=.ok S)∧Hid (uq wr g B p n c (look S))∧Hid (Below w.heap.size w wr)∧Hid (au wr w.heap.size 32 #[.int .i64 0,.int .i64 0])) (fun _ i _=>n - (RowKit.intOf i).toNat)
  case atStart=>exact⟨0,[],Nat.zero_le _,rfl,Qh rfl,Qh AW.out,cB,pH⟩
  case round=>
   obtain⟨k,S,hk,rfl,hS,Y,I,D⟩:=hrel
   by_cases ay:k<n
   ·have nF:k<(xs.map MP.m).length:=by rw[Qi,U.out];exact ay
    have hIn:=CD (xs.map MP.m) k S (by omega) hS.out;rw[Qi,U.out]at hIn;have l:=Qh (GY w g B p n c xs S k wr HM.out I.out (by have:=H.out.2;have:=J.out;omega) (by omega) ay hIn Y.out);have qX:(k:Int)<(n:Int):=by omega
    have ou:Hid ((xs.map MP.m).length=k+1+(n - (k+1))):=Qh (by rw[Qi,U.out];omega);unfold N6 at l;obtain⟨lo,Yd⟩:∃lo,pj (xs.map MP.m) S k=lo:=⟨_,rfl⟩
    rw[Yd]at l;have Wx:=Qh Yd;clear nF hIn Yd;go_wp2_with fail;refine l.out.mono ?_;rintro e w3 ⟨rfl,X,jC⟩;have ck:w.heap.size≠B:=by have:=H.out.2;have:=J.out;omega
    have SK:Below w.heap.size w w3:=I.out.trans (jC.below I.out.size (fun b u=>by rw[show b=B from u];have:=H.out.2;have:=J.out;omega));have A:=D.out.iH jC (show ¬aA B w.heap.size from ck);have nP:=Qh SK;have uf:=Qh A;have HL3:=Qh X;have x0:=A.cell 0;have O:=A.cell 1;have f0:=A.frozen 0;have f1:=A.frozen 1;simp only[Qc,Qa,Qb]at x0 O;clear X jC ck SK A l
    cases lo with
    |none=>
     have E:=Qh (xd G.out (by rw[ou.out];exact tD (xi hS.out Wx.out) _));go_wp2;refine bodyPost_ret (ry rfl _ _ w.heap.size _ rfl rfl 7 (k:Int) (qi uf.out _ _)) rfl ?_;exact EY E.out ((nP.out.setCell (p:=⟨w.heap.size,0,none⟩) (Qk _) _).setCell (p:=⟨w.heap.size,1,none⟩) (Qk _) _) rfl
    |some S'=>
     have HS':=Qh (tE hS.out Wx.out);clear x0 O f0 f1;go_wp2;go_roundw
     case rel=>exact⟨k+1,S',by omega,by go_num,HS',HL3,nP,uf⟩
     case measure=>simp[RowKit.intOf];omega
   ·have uh:¬((k:Int)<(n:Int)):=by omega
    have cn:k=n:=by omega
    have zm:(xs.map MP.m).length=n:=by rw[Qi,U.out]
    have L:kJ (xs.map MP.m) (xs.map MP.m).length=.ok S:=by rw[zm,←cn];exact hS.out
    have GK:=CE _ _ _ hS.out;have E:=Qh (Cf G.out L)
    have HTR:=Qh (Wj g B p n c xs S wr (HM.out.below I.out) (by omega) Y.out (uI _ _ _ hS.out) (by have:=CD _ _ S (Qk _) L;rwa [zm]at this) (Nat.le_trans GK.len (by omega)) (fun e he=>by
     obtain⟨j,hj,e2⟩:=GK.from_ e he;rw[e2,oD];have:=(HF.out _ (qS xs j (by rw[U.out];omega))).1;unfold maxLen
     omega) HR.out)
    clear cn zm L GK;go_wp2_with fail;refine HTR.out.mono ?_;rintro e w3 ⟨q,d,zs,rfl,z,T,hd,r,kW,Z,hy⟩;have nP:=Qh (I.out.trans (kW.mono I.out.size));have A:=D.out.below kW D.out.lt;have uf:=Qh A;have jo:=Qh (And.intro I.out.size D.out.lt);have P:=Qh (And.intro z (And.intro T (And.intro hd (And.intro r (And.intro Z hy)))));have x0:=A.cell 0;have O:=A.cell 1;have f0:=A.frozen 0;have f1:=A.frozen 1;simp only[Qc,Qa,Qb]at x0 O;clear z T hd r kW Z hy A;go_wp2;refine bodyPost_ret (ry rfl _ _ w.heap.size _ rfl rfl 0 0 (qi uf.out _ _)) rfl ?_;have hbf:=(nP.out.setCell (p:=⟨w.heap.size,0,none⟩) (Qk _) (.int .i64 0)).setCell (p:=⟨w.heap.size,1,none⟩) (Qk _) (.int .i64 0);have N:Kept (aA w.heap.size) w3 ((w3.setCell ⟨w.heap.size,0,none⟩ (.int .i64 0)).setCell ⟨w.heap.size,1,none⟩ (.int .i64 0)):=((Kept.refl (aA w.heap.size) w3).setCell (a:=⟨w.heap.size,0,none⟩) (.inr rfl) _).setCell (a:=⟨w.heap.size,1,none⟩) (.inr rfl) _;obtain⟨z,T,hd,r,Z,hy⟩:=P.out;obtain⟨we,Bw⟩:=jo.out;refine⟨q,d,zs,by rw[E.out];rfl,by rw[E.out];exact z,?_,by rw[E.out];exact hd,r,hbf,fun x f=>Nat.le_trans we (Z x f),fun y t x f=>Nat.le_trans we (hy y t x f)⟩;rw[E.out];refine⟨T.1,fun y t=>(T.2.1 y t).kept N (fun _ x f h=>by have h1:=hy y t x f;have h2:x.block=w.heap.size:=h;omega),fun h0=>?_⟩;obtain⟨b,o,u,oE,hc⟩:=T.2.2 h0;refine⟨b,o,u,Nat.lt_of_lt_of_le oE N.size,fun i hi j hj=>?_⟩;rw[World.cell?_of_block (N.block b oE (fun h=>by have h1:=Z _ u;have h2:b=w.heap.size:=h;simp only at h1;omega))];exact hc i hi j hj
end kY
namespace Xe
open Rec Mem kY DY Wr
attribute [local irreducible] wpQuiet
theorem Y2 {g:Nat} (h:w'.ownsRow B 9 1 (.slice (some ⟨g,0,none⟩) n n) n (madeCells #[.string ⟨#[]⟩] n).toList):Rs w' g (List.replicate n []):=by
 rcases h.2 with⟨h1,_⟩|⟨g',cap,cur,h1,_,hg,h2,h3,h4,h5⟩
 ·cases h1
 ·cases h1
  refine⟨cur,hg,by rw[List.length_replicate];omega,fun i hi=>?_⟩;rw[List.length_replicate]at hi
  have A:cur.toList[i]? =(madeCells #[Value.string ⟨#[]⟩] n).toList[i]? :=by
   rw[←h5,List.getElem?_take,if_pos (by omega)]
  rw[←Array.getElem?_toList,A,toList_madeCells_one,List.getElem?_replicate,if_pos (by omega),List.getD,List.getElem?_replicate,if_pos hi];rfl
theorem Pd {fn:Func} (hf:fn.results=#[.tmp 4,.cell 5 32]) (tmps:Array Value) (w:World) (g:Nat) (v:Value) (ht:tmps.getD 5 undef=.pointer (some ⟨g,0,none⟩)) (hv:tmps.getD 4 undef=v)
 (a b:Int) (hb:au w g 32 #[.int .i64 a,.int .i64 b]):(results fn tmps).run Tryz.prog w=.ok (.tuple #[v,.agg #[.int .i64 a,.int .i64 b]]) w:=by
 have c0:=hb.cell 0;have c1:=hb.cell 1;simp only[Qc,Qa,Qb]at c0 c1;clear hb;have hl:(loadVar 32 ⟨g,0,none⟩).run Tryz.prog w=.ok (.agg #[.int .i64 a,.int .i64 b]) w:=by go_simp
 have B:tmps[5]?.getD undef=.pointer (some ⟨g,0,none⟩):=by simpa using ht
 have A:tmps[4]?.getD undef=v:=by simpa using hv
 simp only[results,hf];simp[Result.andThen,B,A,asAddr,hl]
theorem LJ (w:World) (p:Option Addr) (n c:Nat) (xs:List NP) (hM:bU w p n xs) (hn:n≤4096):
 Calls Tryz.prog 22 #[.slice p n c] w fun e w'=>∃g,e=.returned (.slice (some ⟨g,0,none⟩) n n)∧Rs w' g (rm (xs.map NP.m))∧Below w.heap.size w w':=by
 obtain⟨i0,hi,r,l,o⟩:=info_parts Yo;have HI:=Qh hi;have rC:=Qh r;have pX:=Qh l;have pD:=Qh o;have HM:=Qh hM;have O:=Qh hM.1;clear hi r l o hM
 go_enter Tryz.func22,Tryz.ntmps22
 go_wp2_with (at_make;refine wpList_make_full _ rfl _ _ 55 rfl w.heap.size 9 i0 _ 1 Tryz.underlying55 HI.out rC.out pX.out .i64 .i64 _ _ n rfl rfl rfl rfl (by rw[pD.out];omega) (by unfold maxLen;omega) (Qk _) ?_)
 intro w2 u X;have G:=Y2 (B:=w.heap.size) u;have q:Kept ag w w2:=(Kept.refl ag w).grown X (fun k h=>by cases h);have b:Below w.heap.size w w2:=q.below (Qk _) (fun _ h=>h.elim);have Z:=Qh b;have wL:=Qh G;obtain⟨gg,V⟩:∃gg,w.heap.size=gg:=⟨_,rfl⟩
 have D:=Qh V;rw[V]at wL Z⊢;clear u X G q b V;go_wp2_with fail
 go_loopw [4,5,11] (fun _ _ i wr=>∃(k:Nat) (A:List (List UInt8)),k≤n∧i=.int .i64 (k:Int)∧Hid (A.length=n)∧Hid (∀j,j<k→A.getD j []=(xs.getD j aT).m.path)∧Hid (Rs wr gg A)∧Hid (Below gg w wr)) (fun _ _ i _=>n - (RowKit.intOf i).toNat)
 case atStart=>exact⟨0,_,Nat.zero_le _,rfl,Qh (by simp),Qh (fun j h=>by omega),wL,Z⟩
 case round=>
  obtain⟨k,A,hk,rfl,J,E,G,H⟩:=hrel
  by_cases Y:k<n
  ·obtain⟨b1,o1,rfl,ch,xz,hc⟩:=(HM.out.below (by rw[D.out];exact H.out)).kZ Y
   obtain⟨y,hy⟩:∃y,xs.getD k aT=y:=⟨_,rfl⟩
   rw[hy]at hc;have HY:=Qh hy;obtain⟨c0,c1,c2,c3,c4,c5,c6,c7,c8⟩:=hc;obtain⟨W5,L⟩:∃W5,wr.alloc (.cells y.cs 52)=W5:=⟨_,rfl⟩
   have M:Below wr.heap.size wr W5:=by rw[←L];exact(Below.refl _ _).alloc (Qk _) _
   have z:au W5 wr.heap.size 52 y.cs:=by rw[←L];exact au.new wr _ _
   have U:=V3 G.out M;have I:k<A.length:=by rw[J.out];exact Y
   obtain⟨r0,f0⟩:=U.at I;have z0:=z.cell 0;unfold NP.cs tH at L;simp only[NP.cs,tH,Qc,Qa]at z0;have R:Hid (Rs (W5.setCell ⟨gg,k,none⟩ (.string (str y.m.path))) gg (A.set k y.m.path)):=Qh (U.set I y.m.path);have AU:Hid (Below gg w (W5.setCell ⟨gg,k,none⟩ (.string (str y.m.path)))):=Qh ((H.out.trans (M.mono (by rw[←D.out];exact H.out.size))).setCell (p:=⟨gg,k,none⟩) (Qk _) _)
   have N:Hid (∀j,j<k+1→(A.set k y.m.path).getD j []=(xs.getD j aT).m.path):=Qh (fun j hj=>by
    rw[Om A k j _ I]
    by_cases T:j=k
    ·rw[if_pos T,T,HY.out]
    ·rw[if_neg T];exact E.out j (by omega))
   have qX:(k:Int)<(n:Int):=by omega
   clear hy ch xz M z U I;go_upto_region 5 with fail;clear L c0 c1 c2 c3 c4 c5 c6 c7 c8;go_wp2;go_roundw
   case rel=>exact⟨k+1,_,by omega,by go_num,Qh (by rw[List.length_set];exact J.out),N,R,AU⟩
   case measure=>simp[RowKit.intOf];omega
  ·obtain rfl:k=n:=by omega
   have uh:¬((k:Int)<(k:Int)):=by omega
   have Cx:A=rm (xs.map NP.m):=by
    apply List.ext_getElem
    ·rw[J.out,xm,Qi,O.out]
    ·intro i h1 h2
     have W:i<k:=by rw[←J.out];exact h1
     have d:=E.out i W;have f:=M4 (t:=xs.map NP.m) (i:=i) (by rw[Qi,O.out];exact W);rw[List.getD,Qd h1,Option.getD_some]at d;rw[List.getD,Qd h2,Option.getD_some]at f;rw[d,f,List.getElem_map,Br (by rw[O.out];exact W)]
   go_wp2;go_ret;exact⟨gg,rfl,by rw[←Cx];exact G.out,by rw[D.out];exact H.out⟩
theorem Qv (w:World) (p:Option Addr) (n c:Nat) (xs:List NP) (hR:BU w p n c xs) (hN:Need w):
 Calls Tryz.prog 10 #[.slice p n c] w (xJ w (xs.map NP.m)):=by
 have X:=Qh hR.at_;have W:=Qh hR.at_.1;have HC:=Qh (And.intro hR.nc hR.cm);have H:=Qh hR.room;have HN:=Qh hN;have T:=Su p n c xs w hR.at_ hR.nc hR.cm (fun x D=>⟨(hR.room x D).1,(hR.room x D).2.1⟩) hN.Hy;obtain⟨g,N⟩:∃g,ja (xs.map NP.m)=g:=⟨_,rfl⟩
 rw[N]at T;have A:=Qh N;have E:=Qh T;clear hR hN T N
 go_enter Tryz.func10,Tryz.ntmps10
 go_wp2_with fail
 refine E.out.mono ?_;rintro e w1 ⟨rfl,l⟩;have J:=Qh l;clear l E
 cases g with
 |false=>
  go_wp2;go_ret2;exact .inr ⟨A.out,none,0,rfl,J.out⟩
 |true=>
  have hn:n≤4096:=by
   have:=Ud A.out
   rwa [Qi,W.out]at this
  have q:=LJ w1 p n c xs (X.out.below J.out) hn;have Y:=Qh q;clear q;go_wp2_with fail;refine Y.out.mono ?_;rintro e w2 ⟨gg,rfl,u,o⟩;have f:=Qh (J.out.trans (o.mono J.out.size));have O:=u.strs;rw[xm,Qi,W.out]at O
  have hm:=G6 w2 p n c xs (some ⟨gg,0,none⟩) n n (rm (xs.map NP.m)) ⟨X.out.below f.out,HC.out.1,HC.out.2,by omega,H.out,A.out⟩ ⟨O,Qk _,by unfold maxLen;omega,by omega,fun s hs=>by
   obtain⟨x,D,rfl⟩:=List.mem_map.1 hs;obtain⟨y,hy,rfl⟩:=List.mem_map.1 D
   exact(H.out y hy).1⟩
  rw[Vd A.out (rP _)]at hm;unfold xH at hm;have G:=Qh hm;have t:=f;clear hm O u o Y;go_wp2_with fail;refine G.out.mono ?_;rintro e w4 ⟨q4,d4,ys,rfl,B,I,M,L,r⟩;have R:=Qh (t.out.trans (r.mono t.out.size));have b:(kB (xs.map NP.m) (rm (xs.map NP.m))).length≤4096:=tG A.out;have ha:=SB q4 (kB (xs.map NP.m) (rm (xs.map NP.m))).length d4 ys w4 I b (fun x D=>wG A.out x.m (by unfold rh;rw[←B];exact List.mem_map_of_mem D)) (HN.out.below R.out);rw[B]at ha;unfold Eu at ha;have V:=Qh ha;clear B I M L r b ha G;go_wp2_with fail;refine V.out.mono ?_;rintro e w5 ⟨v,rfl,Z,U⟩;obtain⟨p5,c5,rfl,hle,d,z,_,_⟩:=Z.slice;have F:=Qh (And.intro hle (And.intro d (And.intro z (R.out.trans (U.mono R.out.size)))));clear Z hle d z U V;go_wp2;go_ret2;exact .inl ⟨A.out,p5,c5,rfl,F.out.1,F.out.2.1,F.out.2.2.1,F.out.2.2.2⟩
theorem Hb:∀m∈(cu bs).1,m.path.length≤200∧m.target.length≤200∧m.body.length≤1048576:=fun m hm=>by
 obtain⟨⟨ms,e,a⟩,h⟩:∃x,cu bs=x:=⟨_,rfl⟩
 rw[h]at hm;rcases uN h with⟨_,h2,_⟩|⟨_,_,h2⟩
 ·simp only[h2]at hm;cases hm
 ·have A:=qT (h2 m hm)
  exact⟨A.Fx,A.Ku,A.body⟩
theorem T3 (w:World) (p:Option Addr) (n c:Nat) (bs:List UInt8) (q:Option Addr) (m d:Nat) (zs:List Int) (hb:iC w p n bs) (hl:bs.length=n) (hn:n≤140737488351232) (hq:N4 w q m zs) (hz:zs.length=m) (hm:m*8≤140737488351232) (hN:Need w):
 Calls Tryz.prog 13 #[.slice p n c,.slice q m d] w (Bj w bs):=by
 obtain⟨W,hW⟩:∃W,w.alloc (.cells #[.int .i64 0,.int .i64 0] 32)=W:=⟨_,rfl⟩
 have Z:Below w.heap.size w W:=by rw[←hW];exact(Below.refl _ _).alloc (Qk _) _
 have D5:au W w.heap.size 32 #[.int .i64 0,.int .i64 0]:=by rw[←hW];exact au.new w _ _
 have U:=JK W p n c bs q m d zs (hb.below Z) hl hn (hq.kept (Kept.bj Z ag) (fun _ _ _ h=>h.elim)) hz hm (hN.below Z);unfold zU at U;have t:=Qh (Hb (bs:=bs));have Xr:=Qh (wF bs);obtain⟨⟨ms,A,a⟩,hD⟩:∃x,cu bs=x:=⟨_,rfl⟩
 have L:Hid ((A≠0→nO bs=([],A,a))∧(A=0→nO bs=kH ms)):=Qh (by
  unfold nO;rw[hD]
  exact⟨fun h=>if_neg h,fun h=>if_pos h⟩)
 rw[hD]at U t Xr;obtain⟨az,ZA⟩:∃z:Int,((a:Nat):Int)=z:=⟨_,rfl⟩
 rw[ZA]at U;have r:=Qh ZA;have HR:=Qh U;have HN:=Qh hN;have nG:=Qh Z;have sj:=Qh D5;clear hb hl hn hq hz hm hN Z D5 U hD ZA
 go_enter Tryz.func13,Tryz.ntmps13
 go_upto_region 1 with fail
 clear hW;go_wp2_with fail;refine HR.out.mono ?_;rintro e Y ⟨q1,c1,xs,rfl,nI,N,OL,X,ch⟩;obtain⟨w2,b⟩:∃w2,Y.alloc (.cells #[.int .i64 A,.int .i64 az] 32)=w2:=⟨_,rfl⟩
 have u:Below Y.heap.size Y w2:=by rw[←b];exact(Below.refl _ _).alloc (Qk _) _
 have y:au w2 Y.heap.size 32 #[.int .i64 A,.int .i64 az]:=by rw[←b];exact au.new Y _ _
 have D:=ch.trans (u.mono ch.size);have g:=Qh (nG.out.trans (D.mono nG.out.size));have M:=Qh (And.intro OL (And.intro (X.below u) (And.intro nI N)));have I:=sj.out.below D sj.out.lt;have wv:=Qh I;have e0:=y.cell 0;have e1:=y.cell 1;have l:=I.cell 0;have o:=I.cell 1;have f0:=I.frozen 0;have f1:=I.frozen 1;simp only[Qc,Qa,Qb]at e0 e1 l o;clear nI N OL X ch u y D I HR
 by_cases he:A=0
 ·have J:=Qh (L.out.2 he)
  subst he;go_upto_region 2 with fail;clear b;clear e1 l o f0 f1
  have hf:=Ss q1 xs.length c1 xs w2 M.out.2.1 (by have:=Xr.out;rw[←Qi (f:=MP.m),M.out.1];omega) (fun x hx=>by
   have:=t.out x.m (by rw[←M.out.1];exact List.mem_map_of_mem hx)
   exact⟨by omega,by omega⟩) (fun x hx=>by
   have:=t.out x.m (by rw[←M.out.1];exact List.mem_map_of_mem hx)
   omega) (HN.out.below g.out).Hy
  unfold BM at hf;rw[M.out.1]at hf;obtain⟨⟨T,E,k⟩,hT⟩:∃x,kH ms=x:=⟨_,rfl⟩
  rw[hT]at hf;have HT:=Qh hT;obtain⟨kz,uj⟩:∃z:Int,((k:Nat):Int)=z:=⟨_,rfl⟩
  rw[uj]at hf;have Td:=Qh uj;have HF:=Qh hf;clear hf hT uj;go_wp2_with fail;refine HF.out.mono ?_;rintro e w3 ⟨q3,d3,us,rfl,G,qa,R,O,kW,_,_⟩;have V:us.length=T.length:=by rw[←G,Qi]
  have nP:=Qh (g.out.trans (kW.mono g.out.size));have H:=wv.out.below kW wv.out.lt;have Xw:=Qh H;have B:=Qh (And.intro G (And.intro qa (And.intro R (And.intro O V))));have l:=H.cell 0;have o:=H.cell 1;have f0:=H.frozen 0;have f1:=H.frozen 1;simp only[Qc,Qa,Qb]at l o;clear G qa R O kW H e0 HF V;go_wp2;refine bodyPost_ret (Pd rfl _ _ w.heap.size _ rfl rfl E kz (qi Xw.out _ _)) rfl ?_;refine⟨q3,d3,us,by rw[J.out,HT.out,B.out.2.2.2.2,←Td.out];rfl,by rw[J.out,HT.out];exact B.out.1,?_,by rw[B.out.2.2.2.2];exact B.out.2.2.1,B.out.2.2.2.1,(nP.out.setCell (p:=⟨w.heap.size,0,none⟩) (Qk _) _).setCell (p:=⟨w.heap.size,1,none⟩) (Qk _) _⟩;have hk:Kept (aA w.heap.size) w3 ((w3.setCell ⟨w.heap.size,0,none⟩ (.int .i64 E)).setCell ⟨w.heap.size,1,none⟩ (.int .i64 kz)):=((Kept.refl (aA w.heap.size) w3).setCell (a:=⟨w.heap.size,0,none⟩) (.inr rfl) _).setCell (a:=⟨w.heap.size,1,none⟩) (.inr rfl) _;have hn:=B.out.2.1;rw[←B.out.2.2.2.2]at hn;exact Fj Xw.out hn hk
 ·have J:=Qh (L.out.1 he)
  have ck:(A != 0)=true:=by simpa using he
  clear he;go_upto_region 3 with fail;clear b
  go_still_tail 2,(by kernel_rfl)
  go_wp2;refine bodyPost_ret (Pd rfl _ _ w.heap.size _ rfl rfl A az (qi (wv.out.drew) _ _)) rfl ?_;refine⟨none,0,[],by rw[J.out,←r.out];rfl,by rw[J.out];rfl,zt _ _,Qk _,by unfold maxLen;omega,((below_drewN g.out 1).setCell (p:=⟨w.heap.size,0,none⟩) (Qk _) _).setCell (p:=⟨w.heap.size,1,none⟩) (Qk _) _⟩
theorem Qx (w:World) (p:Option Addr) (n c:Nat) (xs:List MP) (hM:Ey w p n c xs):
 Calls Tryz.prog 19 #[.slice p n c] w fun e w'=>e=.returned (.bool (tP (xs.map MP.m)))∧Below w.heap.size w w':=by
 have R:=Qh hM.at_;have M:=Qh hM.at_.1;obtain⟨r,O⟩:∃r,tP (xs.map MP.m)=r:=⟨_,rfl⟩
 have T:=Qh O;have f:=hM.few;rw[O];clear hM O
 go_enter Tryz.func19,Tryz.ntmps19
 go_wp2_with fail
 go_loopw [3] (fun i wr=>∃(k:Nat),1≤k∧(k≤n∨k=1)∧i=.int .i64 (k:Int)∧Hid (AG (xs.map MP.m) k=true)∧Hid (Below w.heap.size w wr)) (fun i _=>n+1 - (RowKit.intOf i).toNat)
 case atStart=>exact⟨1,Qk _,.inr rfl,rfl,Qh (R6 _),Qh (Below.refl _ _)⟩
 case round=>
  obtain⟨k,jM,hk,rfl,X,D⟩:=hrel
  by_cases V:k<n
  ·obtain⟨b,o,rfl,g,u,hc⟩:=(R.out.below D.out).p6 V
   obtain⟨z,o',he,_,_,J⟩:=(R.out.below D.out).p6 (show k - 1<n by omega)
   cases he
   have G:=oD xs k;have A:=oD xs (k - 1);obtain⟨x,Y⟩:∃x,xs.getD k cz=x:=⟨_,rfl⟩
   obtain⟨y,hy⟩:∃y,xs.getD (k - 1) cz=y:=⟨_,rfl⟩
   rw[Y]at hc G;rw[hy]at J A;obtain⟨m,hm⟩:∃m,k - 1=m:=⟨_,rfl⟩
   rw[hm]at J A;have hS:=Nl (xs.map MP.m) k (by omega);rw[X.out,Bool.true_and,hm,G,A]at hS;have N:Hid (∀p:pI wr,Calls Tryz.prog 45 #[.string (str y.m.path),.string (str x.m.path)] p.w' fun e w'=>e=.returned (.bool (j1 y.m.path x.m.path))∧p.w'=w'):=Qh (fun p=>Path.yi y.m.path x.m.path p.w');obtain⟨L,W⟩:∃L,j1 y.m.path x.m.path=L:=⟨_,rfl⟩
   rw[W]at N hS;have U:=Qh hS;have Z:=Dx hc.1;have d:=Dx J.1;have q1:IntKind.i64.wrap ((k:Int) - 1)=(m:Int):=by rw[IntKind.wrap_i64];omega
   have qX:(k:Int)<(n:Int):=by omega
   have l:(m:Int)<(n:Int):=by omega
   have q:Hid (k<(xs.map MP.m).length):=Qh (by rw[Qi,M.out];exact V);clear hc J g u G A Y hy W hm hS
   cases L with
   |true=>
    go_upto_region 4 with fail
    refine cA (by kernel_rfl) (by kernel_rfl) ?_
    repeat (quiet_step (first|(go_at_call 45;exact Calls.tR (N.out _))))
    refine wpQuiet_nil ?_;intro t H;have I:=kN H;clear H Z d;have B:=Qh (D.out.trans (I.mono D.out.size));clear I;go_wp2;go_roundw
    case rel=>exact⟨k+1,by omega,by omega,by go_num,U,B⟩
    case measure=>simp[RowKit.intOf];omega
   |false=>
    have E:Hid (r=false):=Qh (by
     rw[←T.out]
     cases h:tP (xs.map MP.m)with
     |false=>rfl
     |true=>
      have h1:=VX h (k+1) (by have:=q.out;omega);rw[U.out]at h1
      cases h1)
    go_upto_region 4 with fail
    refine cA (by kernel_rfl) (by kernel_rfl) ?_
    repeat (quiet_step (first|(go_at_call 45;exact Calls.tR (N.out _))))
    refine wpQuiet_nil ?_;intro t H;have I:=kN H;clear H Z d;have B:=Qh (D.out.trans (I.mono D.out.size));clear I;go_wp2;go_ret;exact⟨by rw[E.out];rfl,B.out⟩
  ·have uh:¬((k:Int)<(n:Int)):=by omega
   have E:Hid (r=true):=Qh (by
    rw[←T.out];rcases Nat.eq_zero_or_pos n with h0|h0
    ·have:xs=[]:=List.eq_nil_of_length_eq_zero (by rw[M.out,h0])
     rw[this];rfl
    ·rw[←R4,Qi,M.out,show n=k by omega]
     exact X.out)
   go_wp2;go_ret;exact⟨by rw[E.out];rfl,D.out⟩
theorem emitC:EmitC where
 pack w p n c xs hR hN:=Qv w p n c xs hR hN
 unpack w p n c bs q m d zs h1 h2 h3 h4 h5 h6 hN:=T3 w p n c bs q m d zs h1 h2 h3 h4 h5 h6 hN
 sorted w p n c xs hM _:=Qx w p n c xs hM
end Xe
namespace kY
open Mem
def hA:aB:=⟨[97],[98],49,0,0,0,0,[]⟩
def nA:aC:=⟨[97],[],[97],48,0,0,0,0,[120]⟩
theorem al6:ja [iO]=false:=by decide+kernel
theorem ar4 {y:MP} (hb:au w b 48 y.cs) (hB:js w y):jI w (some ⟨b,0,none⟩) 1 [y]:=by
 refine⟨rfl,fun x A=>by rw[List.mem_singleton]at A;subst A;exact hB,fun _=>⟨b,0,rfl,hb.lt,fun i hi j B=>?_⟩⟩;obtain rfl:i=0:=by omega
 rw[show 0+8*0+j=j by omega];exact hb.cell j
theorem Fk {y:NP} (hb:au w b 52 y.cs) (hB:je w y):bU w (some ⟨b,0,none⟩) 1 [y]:=by
 refine⟨rfl,fun x A=>by rw[List.mem_singleton]at A;subst A;exact hB,fun _=>⟨b,0,rfl,hb.lt,fun i hi j B=>?_⟩⟩;obtain rfl:i=0:=by omega
 rw[show 0+9*0+j=j by omega];exact hb.cell j
theorem P8 (w:World) (m:aC) (h:m.body=[]):je w ⟨m,none,0⟩:=by
 refine⟨?_,?_,?_⟩
 ·show iC w none m.body.length m.body
  rw[h];exact fun A=>absurd A (by decide)
 ·show m.body.length≤0
  rw[h];exact Qk _
 ·show(0:Nat)≤_
  decide
end kY
namespace Xe
open Rec Mem kY DY
theorem Zt:ja [nA]=true:=by decide+kernel
theorem Vk:rh [nA]=[nA.mem]:=by decide+kernel
theorem Fs:(yx [nA]).length=2048:=by
 have A:kS nA.mem:=qT (by decide+kernel);have h:=M8 A (by decide+kernel);unfold yx;rw[Vk,xQ,Qf,List.length_replicate,qA,Qf,h];decide
theorem P6 (H:EmitC) (w:World) (hN:Need w):Calls Tryz.prog 9 #[] w fun e w'=>e=.returned (.bool true)∧Below w.heap.size w w':=by
 have kc:(convert 26 26 (.slice (some ⟨w.heap.size,0,none⟩) 1 1)).run Tryz.prog (w.alloc (.cells #[.int .u8 120] 5))=.ok (.slice (some ⟨w.heap.size,0,none⟩) 1 1) (w.alloc (.cells #[.int .u8 120] 5 (1,2))):=
  Lib.run_convert_bytes_const (P:=Tryz.prog) w 26 5 #[.int .u8 120] 1 1 Tryz.underlying26 Tryz.underlying5
 obtain⟨W1,O⟩:∃W1,(w.alloc (.cells #[.int .u8 120] 5 (1,2))).alloc (.cells #[.string ⟨#[97]⟩,.string ⟨#[]⟩,.string ⟨#[97]⟩,.int .u8 48,.int .i64 0,.int .i64 0,.int .i64 0,.int .i64 0,.slice (some ⟨w.heap.size,0,none⟩) 1 1] 52)=W1:=⟨_,rfl⟩
 have c:Below w.heap.size w W1:=by rw[←O];exact((Below.refl _ w).alloc (Qk _) _).alloc (by simp) _
 have z:au W1 (w.heap.size+1) 52 (NP.cs ⟨nA,some ⟨w.heap.size,0,none⟩,1⟩):=by
  have:=au.new (w.alloc (.cells #[.int .u8 120] 5 (1,2))) 52 (NP.cs ⟨nA,some ⟨w.heap.size,0,none⟩,1⟩);rw[World.size_alloc]at this;rw[←O];exact this
 have N:iC W1 (some ⟨w.heap.size,0,none⟩) 1 [120]:=fun _=>⟨w.heap.size,0,rfl,fun i hi=>by
  obtain rfl:i=0:=by omega
  rw[←O]
  have:(w.alloc (.cells #[.int .u8 120] 5 (1,2))).cell? ⟨w.heap.size,0,none⟩=some (.int .u8 120):=by
   unfold World.cell?;rw[heap_alloc_new];rfl
  exact(((Below.refl (w.heap.size+1) (w.alloc (.cells #[.int .u8 120] 5 (1,2)))).alloc (by simp) _).cell (p:=⟨w.heap.size,0,none⟩) (by show w.heap.size<w.heap.size+1;omega)).trans this⟩
 have G:=H.pack W1 (some ⟨w.heap.size+1,0,none⟩) 1 1 [⟨nA,some ⟨w.heap.size,0,none⟩,1⟩] ⟨Fk z ⟨N,by show(1:Nat)≤1;decide,by show(1:Nat)≤maxLen;decide⟩,Qk _,by decide,fun x B=>by
  rw[List.mem_singleton.1 B];exact⟨by show(1:Nat)≤_;decide,by show(0:Nat)≤_;decide,by show(1:Nat)≤_;decide,by show(1:Nat)≤_;decide⟩⟩ (hN.below c)
 rw[show([⟨nA,some ⟨w.heap.size,0,none⟩,1⟩]:List NP).map NP.m=[nA]from rfl]at G;unfold xJ at G;rw[Fs]at G;have t:=Qh G;have HC:=Qh H;have y:=Qh O;have iA:=Qh c;have X:=Qh hN;clear O c z N G H hN
 go_enter Tryz.func9,Tryz.ntmps9
 go_wp2_with fail
 rw[y.out];refine t.out.mono ?_;rintro e w2 (⟨_,p2,c2,rfl,X3,X4,I,cj⟩|⟨hf,_⟩)
 rotate_left
 ·exact absurd Zt (by rw[hf];decide)
 have Z:=Qh (iA.out.trans (cj.mono iA.out.size));have hu:=HC.out.unpack w2 p2 2048 c2 (yx [nA]) none 0 0 [] I Fs (by decide) (UR w2) rfl (by decide) (X.out.below Z.out);unfold Bj at hu;rw[Kx Zt]at hu;have q:=Qh hu;clear X3 X4 I cj hu t y kc;go_wp2_with fail;refine q.out.mono ?_;rintro e w3 ⟨q3,d3,zs,rfl,V,u,_,_,kW⟩;have nP:=Qh (Z.out.trans (kW.mono Z.out.size))
 have L:zs.length=1:=by
  have:=congrArg List.length V
  simpa using this
 obtain⟨z0,rfl⟩:=List.length_eq_one_iff.1 L;clear L;simp only[List.map_cons,List.map_nil,List.cons.injEq,and_true]at V;obtain⟨m0,p0,c0⟩:=z0;simp only at V;subst V;obtain⟨b,o,rfl,oE,hB,k0⟩:=u.kZ (i:=0) (by simp);have R:kX w3 b o ⟨nA,p0,c0⟩:=by simpa using k0
 obtain⟨W4,T⟩:∃W4,(w3.alloc (.cells #[.int .i64 0,.int .i64 0] 32)).alloc (.cells #[.string ⟨#[]⟩,.string ⟨#[]⟩,.string ⟨#[]⟩,.int .u8 0,.int .i64 0,.int .i64 0,.int .i64 0,.int .i64 0,.slice none 0 0] 52)=W4:=⟨_,rfl⟩
 have Y:Below w3.heap.size w3 W4:=by rw[←T];exact((Below.refl _ _).alloc (Qk _) _).alloc (by simp) _
 have f:au W4 w3.heap.size 32 #[.int .i64 0,.int .i64 0]:=by
  have B:=au.new w3 32 #[.int .i64 0,.int .i64 0];rw[←T];exact B.below ((Below.refl _ _).alloc (Qk _) _) B.lt
 have M:au W4 (w3.heap.size+1) 52 (NP.cs aT):=by
  have:=au.new (w3.alloc (.cells #[.int .i64 0,.int .i64 0] 32)) 52 (NP.cs aT);rw[World.size_alloc]at this;rw[←T];exact this
 have d:=Qh (nP.out.trans (Y.mono nP.out.size))
 have A:=HC.out.pack W4 (some ⟨w3.heap.size+1,0,none⟩) 1 1 [aT] ⟨Fk M (P8 W4 iO rfl),Qk _,by decide,fun x B=>by
  rw[List.mem_singleton.1 B];exact⟨by show(0:Nat)≤_;decide,by show(0:Nat)≤_;decide,by show(0:Nat)≤_;decide,by show(0:Nat)≤_;decide⟩⟩ (X.out.below d.out)
 rw[show([aT]:List NP).map NP.m=[iO]from rfl]at A;unfold xJ at A;have r:=Qh A;have E:=Qh T;have D:=Qh Y;have g:=Qh f;have l:=Qh (And.intro oE R);clear u oE hB k0 R T Y f M A q kW;go_wp2_with fail;rw[E.out];refine r.out.mono ?_;rintro e w5 (⟨hf,_⟩|⟨_,p5,c5,rfl,U⟩)
 ·exact absurd hf (by rw[al6];decide)
 have J:Below w3.heap.size w3 w5:=D.out.trans (U.mono D.out.size);have f0:=(g.out.below U g.out.lt).cell 0;have s0:w5.cell? ⟨b,o+2,none⟩=some (.string ⟨#[97]⟩):=(l.out.2.below l.out.1 J).2.2.1;simp only[Qc,Qa]at f0;have W:=Qh (d.out.trans (U.mono d.out.size));have hs:=HC.out.sorted w5 none 0 0 [] ⟨yo w5 none,Qk _,by decide,by decide,fun x B=>by cases B⟩ (X.out.below W.out);have HS:=Qh hs;clear U J hs r E;go_wp2_with fail;refine HS.out.mono ?_;rintro e w6 ⟨rfl,xf⟩;have KC:=Qh (W.out.trans (xf.mono W.out.size));clear xf f0 s0;go_wp2;go_ret;exact⟨rfl,KC.out⟩
end Xe
namespace Walk
open Rec Block Mem kY DY Xe
variable {ms:List aB} {a:Nat}
theorem yJ (h:cu bs=(ms,e,a)):(e≠0→nO bs=([],e,a))∧(e=0→nO bs=kH ms):=by
 unfold nO;rw[h];exact⟨fun A=>if_neg A,fun A=>if_pos A⟩
theorem JM (h:cu bs=(ms,e,a)):ms.length≤4096∧∀m∈ms,m.path.length≤140737488351232∧m.target.length≤140737488351232∧m.body.length≤140737488351232:=by
 have h1:=wF bs;rw[h]at h1;refine⟨h1,fun m hm=>?_⟩;rcases uN h with⟨_,h2,_⟩|⟨_,_,h2⟩
 ·rw[h2]at hm;cases hm
 ·have A:=qT (h2 m hm)
  have:=A.Fx;have:=A.Ku;have:=A.body;exact⟨by omega,by omega,by omega⟩
theorem Gq (H:EmitC) (a0:Option Addr) (len0 cap0:Nat) (z0:List Int) (a1:Option Addr) (len1 cap1:Nat) (z1:List Int) (w:World) (w0:IsRow .u8 w a0 len0 cap0 z0) (b0:cap0*1≤140737488351232) (w1:IsRow .i64 w a1 len1 cap1 z1) (b1:cap1*8≤140737488351232) (hN:Need w):
 Calls Tryz.prog 4 #[.slice a0 len0 cap0,.slice a1 len1 cap1] w fun e w'=>e=.returned (.bool true)∧Below w.heap.size w w':=by
 obtain⟨hb,hl,hc,_⟩:=Ls w0;obtain⟨hia,QV,hic,him⟩:=Ml w1;obtain⟨bs,Ox⟩:∃bs,bytesOf (z0.take len0)=bs:=⟨_,rfl⟩
 rw[Ox]at hb hl;have W:Hid (∀w1,Below w.heap.size w w1→Calls Tryz.prog 9 #[] w1 fun e w'=>e=.returned (.bool true)∧Below w1.heap.size w1 w'):=Qh fun w1 h=>P6 H w1 (hN.below h)
 have HB:=Qh hb;have HL:=Qh hl;have q:=Qh (And.intro hc (show cap0≤140737488351232 by omega));have Y:=Qh (And.intro hia (And.intro QV (show len1*8≤140737488351232 by omega)));have HC:=Qh H;have HN:=Qh hN;obtain⟨i0,WM,kh,jS,jU⟩:=info_parts qZ;have Ww:=Qh WM;have rC:=Qh kh;have pX:=Qh jS;have pD:=Qh jU;clear hb hl hc Ox w0 b0 hia QV hic him w1 b1 H hN WM kh jS jU
 go_enter Tryz.func4,Tryz.ntmps4
 by_cases Um:(40000:Int)<(len0:Int)
 ·go_wp2_with fail
  refine(W.out w (Below.refl _ _)).mono ?_;rintro e I ⟨rfl,y⟩;have r:=Qh y;clear y;go_wp2;go_ret;exact⟨rfl,r.out⟩
 ·have hn:len0≤40000:=by omega
  obtain⟨⟨ms,U,a⟩,o⟩:∃x,cu bs=x:=⟨_,rfl⟩
  have HD:=Qh o;obtain⟨⟨T,E,k⟩,hU⟩:∃x,nO bs=x:=⟨_,rfl⟩
  have HUD:=Qh hU
  have HF1:Hid (U≠0→T=[]∧E=U∧k=a):=Qh (fun h=>by
   have h1:=(yJ o).1 h;rw[hU]at h1
   cases h1
   exact⟨rfl,rfl,rfl⟩)
  have HF2:Hid (U=0→kH ms=(T,E,k)):=Qh (fun h=>by rw[←(yJ o).2 h,hU]);have Iu:=Qh (JM o);have wv:Hid (∀w',Below w.heap.size w w'→Calls Tryz.prog 16 #[.slice a0 len0 cap0] w' (zU w' bs)):=Qh (fun w' h=>R9 a0 len0 cap0 bs w' (HB.out.below h) HL.out (by omega) q.out.1 q.out.2 (HN.out.below h));unfold zU at wv;rw[o]at wv;obtain⟨az,ZA⟩:∃z:Int,((a:Nat):Int)=z:=⟨_,rfl⟩
  obtain⟨G,uj⟩:∃z:Int,((k:Nat):Int)=z:=⟨_,rfl⟩
  rw[ZA]at wv;have HAZ:=Qh ZA;have Td:=Qh uj;clear o hU ZA uj
  go_wp2_with (at_builtin;refine kt rfl _ _ 26 rfl w.heap.size 5 i0 Tryz.underlying26 Ww.out rC.out pX.out pD.out _ 0 [] rfl (World.ownsRow_made w #[] 0 (Qk _) (by decide) rfl) a0 len0 cap0 bs rfl (HB.out.alloc _) HL.out (by omega) (by simp) ?_)
  intro v1 w1 ZW Uw;have GJ:j3 w1 w.heap.size v1 len0 bs:=by simpa [j3]using ZW
  have jM:Kept ag w w1:=(((Kept.refl ag w).alloc _)).grown Uw (by intro k hk;simp[Value.ownBlock]at hk;omega);have WE:Below w.heap.size w w1:=jM.below (Qk _) (fun _ h=>h.elim);obtain⟨p1,c1,rfl,_,_,u,t,_⟩:=GJ.slice;have hu:=HC.out.unpack w1 p1 len0 c1 bs a1 len1 cap1 (z1.take len1) u t (by omega) (Y.out.1.kept jM (fun _ _ _ h=>h.elim)) Y.out.2.1 Y.out.2.2 (HN.out.below WE);unfold Bj at hu;rw[HUD.out]at hu;simp only[Td.out]at hu;have HU:=Qh hu;have iA:=Qh WE;clear ZW Uw GJ jM WE u t hu;go_wp2_with fail;refine HU.out.mono ?_;rintro e I ⟨q2,d2,zs,rfl,hz,WR,X3,X4,y⟩;obtain⟨w3,d⟩:∃w3,I.alloc (.cells #[.int .i64 E,.int .i64 G] 32)=w3:=⟨_,rfl⟩
  have Z:Below I.heap.size I w3:=by rw[←d];exact(Below.refl _ _).alloc (Qk _) _
  have uf:Hid (au w3 I.heap.size 32 #[.int .i64 E,.int .i64 G]):=Qh (by rw[←d];exact au.new I _ _);have QO:=iA.out.trans (y.mono iA.out.size);have nP:=Qh (QO.trans (Z.mono QO.size));have D:=Qh (And.intro hz (And.intro (WR.below Z) (And.intro X3 X4)));have hr:=wv.out w3 nP.out;have HR:=Qh hr;clear hz WR X3 X4 y Z QO hr HU;go_upto_region 4 with fail;clear d;go_wp2_with fail;refine HR.out.mono ?_;rintro e V ⟨q4,d4,xs,rfl,hd4,ae5,OL,hxn,nE⟩;obtain⟨w5,O⟩:∃w5,V.alloc (.cells #[.int .i64 U,.int .i64 az] 32)=w5:=⟨_,rfl⟩
  have b:Below V.heap.size V w5:=by rw[←O];exact(Below.refl _ _).alloc (Qk _) _
  have B:Hid (au w5 V.heap.size 32 #[.int .i64 U,.int .i64 az]):=Qh (by rw[←O];exact au.new V _ _);have M:=nE.trans (b.mono nE.size);have l:=Qh (uf.out.below M uf.out.lt);have p:=Qh (nP.out.trans (M.mono nP.out.size));have HN5:=Qh (D.out.2.1.below M);have Ix:=Qh (And.intro OL (hxn.below b));have g0:w5.cell? ⟨V.heap.size,0,none⟩=some (.int .i64 U):=B.out.cell 0;clear hd4 ae5 OL hxn nE b M HR
  by_cases he:U=0
  ·have Zl:=Qh (HF2.out he)
   subst he;go_upto_region 5 with fail;clear O;have hf:=RY q4 xs.length d4 xs w5 Ix.out.2 (by have:=Iu.out.1;rw[←Qi (f:=MP.m),Ix.out.1];omega) (fun x hx=>Iu.out.2 x.m (by rw[←Ix.out.1];exact List.mem_map_of_mem hx));rw[Ix.out.1]at hf;unfold yR at hf;rw[Zl.out]at hf;simp only[Td.out]at hf;have DL:=Qh hf;clear hf;go_wp2_with fail;refine DL.out.mono ?_;rintro e A ⟨q6,d6,us,rfl,hus,qa,J⟩;obtain⟨w7,g⟩:∃w7,A.alloc (.cells #[.int .i64 E,.int .i64 G] 32)=w7:=⟨_,rfl⟩
   have c:Below A.heap.size A w7:=by rw[←g];exact(Below.refl _ _).alloc (Qk _) _
   have L:Hid (au w7 A.heap.size 32 #[.int .i64 E,.int .i64 G]):=Qh (by rw[←g];exact au.new A _ _);have N:=J.trans (c.mono J.size);have Pr:=Qh (l.out.below N l.out.lt);have X:=Qh (p.out.trans (N.mono p.out.size));have HN7:=Qh (HN5.out.below N);have NZ:=Qh (And.intro hus (qa.below c));clear hus qa J c N DL g0;go_upto_region 8 with fail;clear g;go_wp2_with fail;refine(W.out _ X.out).mono ?_;rintro e w8 ⟨rfl,R⟩;have Xg:=Qh (X.out.trans (R.mono X.out.size));have x0:w8.cell? ⟨I.heap.size,0,none⟩=some (.int .i64 E):=(Pr.out.below R Pr.out.lt).cell 0;have x1:w8.cell? ⟨I.heap.size,1,none⟩=some (.int .i64 G):=(Pr.out.below R Pr.out.lt).cell 1;have y0:w8.cell? ⟨A.heap.size,0,none⟩=some (.int .i64 E):=(L.out.below R L.out.lt).cell 0;have y1:w8.cell? ⟨A.heap.size,1,none⟩=some (.int .i64 G):=(L.out.below R L.out.lt).cell 1;have EQ:=Ah E G;have KJ:=Nn q2 q6 zs.length T.length d2 d6 zs us w8 (Nat.le_trans D.out.2.2.1 D.out.2.2.2) (HN7.out.below R) (NZ.out.2.below R);rw[decide_eq_true (by rw[D.out.1,NZ.out.1])]at KJ;have HSM:=Qh KJ;clear R KJ;go_wp2_with fail;refine HSM.out.mono ?_;rintro e w9 ⟨rfl,WL⟩;have r:=Qh (Xg.out.trans (WL.mono Xg.out.size));clear WL x0 x1 y0 y1;go_wp2;go_ret;exact⟨rfl,r.out⟩
  ·obtain⟨hT,hE,hk⟩:=HF1.out he
   have ck:(U != 0)=true:=by simpa using he
   have UB:G=az:=by rw[←Td.out,←HAZ.out,hk]
   have kh:zs=[]:=by
    have h1:=D.out.1;rw[hT]at h1;exact List.map_eq_nil_iff.1 h1
   subst kh;subst hE;subst UB;clear he hT hk;go_upto_region 5 with fail;clear O;go_wp2_with fail;refine(W.out _ p.out).mono ?_;rintro e A ⟨rfl,J⟩;have r:=Qh (p.out.trans (J.mono p.out.size));have x0:A.cell? ⟨I.heap.size,0,none⟩=some (.int .i64 E):=(l.out.below J l.out.lt).cell 0;have x1:A.cell? ⟨I.heap.size,1,none⟩=some (.int .i64 G):=(l.out.below J l.out.lt).cell 1;have y0:A.cell? ⟨V.heap.size,0,none⟩=some (.int .i64 E):=(B.out.below J B.out.lt).cell 0;have y1:A.cell? ⟨V.heap.size,1,none⟩=some (.int .i64 G):=(B.out.below J B.out.lt).cell 1;have EQ:=Ah E G;clear J g0;go_wp2;go_ret;exact⟨rfl,r.out⟩
theorem emitUnpacks (a0:Option Addr) (len0 cap0:Nat) (z0:List Int) (a1:Option Addr) (len1 cap1:Nat) (z1:List Int) (w:World) (w0:IsRow .u8 w a0 len0 cap0 z0) (b0:cap0*1≤140737488351232) (w1:IsRow .i64 w a1 len1 cap1 z1) (b1:cap1*8≤140737488351232) (hN:Need w):
 Calls Tryz.prog 4 #[.slice a0 len0 cap0,.slice a1 len1 cap1] w fun e w'=>e=.returned (.bool true)∧Below w.heap.size w w':=Gq emitC a0 len0 cap0 z0 a1 len1 cap1 z1 w w0 b0 w1 b1 hN
end Walk
end Go.Proofs.YtdhibldkldlfpaaGreatDoor
