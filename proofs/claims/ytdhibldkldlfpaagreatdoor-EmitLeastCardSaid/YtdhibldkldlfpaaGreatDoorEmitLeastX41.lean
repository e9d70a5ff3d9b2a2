/- Merged. -/
import Derived.Test.YtdhibldkldlfpaaGreatDoorEmitLeastX22
import Derived.Test.YtdhibldkldlfpaaGreatDoorEmitLeastX30
import Derived.Test.YtdhibldkldlfpaaGreatDoorEmitLeastX38
import Derived.Test.YtdhibldkldlfpaaGreatDoorEmitLeastX39
import Derived.Test.YtdhibldkldlfpaaGreatDoorEmitLeastX40
import Derived.Shelf.SlIter.Sorted
import Derived.Test.YtdhibldkldlfpaaGreatDoorEmitLeastX33
import Derived.Test.YtdhibldkldlfpaaGreatDoorEmitLeastX36
import Derived.Test.YtdhibldkldlfpaaGreatDoorEmitLeastX35
import Derived.Test.YtdhibldkldlfpaaGreatDoorEmitLeastX37
namespace Go.Proofs.YtdhibldkldlfpaaGreatDoor
set_option linter.unusedVariables false
set_option maxHeartbeats 16000000
set_option maxRecDepth 100000
open Go.ChangeShapes Go.WideShapes Go.ChangeAt Go.RowKit Base bJ cn Bk Go.Lib
variable {ts:List (List UInt8)} {B b c n:Nat} {p:Option Addr} {W w w':World}
namespace Tre
open Go.Shelf Mk
variable {f:List UInt8→Option Value}
theorem EX (x y:List UInt8):ltOf py x y=dI x y:=by
 unfold ltOf;rw[Bool.eq_iff_iff,decide_eq_true_eq,xp]
theorem YM:Go.Sort.SWO (ltOf py) where
 irrefl x:=by rw[EX];exact fk x
 trans x y z h1 h2:=by rw[EX]at*;exact gv x y z h1 h2
 ntrans x y z h1 h2:=by
  rw[EX]at*
  cases h:dI x z with
  |false=>rfl
  |true=>rw[yb h h2]at h1;cases h1
def Ju (w:World) (ks:List (List UInt8)) (e:Ending) (w':World):Prop:=
 ∃(v:Value) (ts:List (List UInt8)),e=.returned v∧ts.Perm ks∧ts.Pairwise (fun a b=>dI a b=true)∧w'.ownsRow w.heap.size 9 1 v ts.length (ts.map fun x=>.string (str x))∧Below w.heap.size w w'
theorem KP (B:Nat) (w:World):Calls Tryz.prog 87 #[.map (some B)] w fun e w'=>e=.returned (.func (.func 131) #[] #[.pointer (some ⟨w.heap.size,0,none⟩)])∧w'=w.alloc (.cells #[.map (some B)] 99):=
 callsIn_wide.1 (AnyZ.keys_in Tryz.zK Fence.wide 4 trivial rfl (some B) w)
theorem ID {ks:List (List UInt8)} (hp:ts.Perm ks) (hn:ks.Nodup) (hs:ts.Pairwise fun a b=>dI b a=false):ts.Pairwise fun a b=>dI a b=true:=by
 have A:ts.Nodup:=hp.nodup_iff.2 hn;have:=hs.and A;refine this.imp fun⟨h1,A⟩=>?_
 exact kN h1 (fun e=>A e.symm)
theorem JS (Bm B:Nat) (w:World) (hb:w.cell? ⟨Bm,0,none⟩=some (.map (some B))) (hM:cF ik w B f) (hlen:∀x v,f x=some v→x.length≤maxLen) (ks:List (List UInt8)) (hnd:ks.Nodup) (ng:∀x,x∈ks↔(f x).isSome=true) (hsz:ks.length≤1000000000):
 Calls Tryz.prog 129 #[.func (.func 131) #[] #[.pointer (some ⟨Bm,0,none⟩)]] w fun e w'=>∃(v:Value) (ss:List (List UInt8)),e=.returned v∧ss.Perm ks∧w'.ownsRow w.heap.size 9 1 v ss.length (ss.map encStr)∧(v=.slice none 0 0↔ss=[])∧Below w.heap.size w w':=by
 obtain⟨D,G,E,A⟩:=Hj (P:=Tryz.prog) Tryz.underlying9 hM hlen ks hnd ng (by unfold maxLen;omega);have H:=AnyZ.keys_gives {Tryz.zK with} Fence.wide 4 trivial rfl (by omega) Bm B ks.length D w (World.block_lt_of_cell? _ _ hb) hb G;have h:=AnyZ.collect_in Tryz.KV Fence.wide 6 trivial trivial rfl (by omega) 131 #[.pointer (some ⟨Bm,0,none⟩)] trivial (enters_of Tryz.func131 (by kernel_rfl) rfl) (fun ss=>ss.Perm (strKeys D)) (Maps.size D) (by rw[A];unfold maxLen;omega) (by rw[A];omega) w H;exact(callsIn_wide.1 h).mono fun e w' ⟨v,ss,h1,h2,h3,h4,h5⟩=>⟨v,ss,h1,h2.trans E,h3,h4,h5⟩
theorem DN (Bm B:Nat) (w:World) (hb:w.cell? ⟨Bm,0,none⟩=some (.map (some B))) (hM:cF ik w B f) (hlen:∀x v,f x=some v→x.length≤maxLen) (ks:List (List UInt8)) (hnd:ks.Nodup) (ng:∀x,x∈ks↔(f x).isSome=true) (hsz:ks.length≤1000000000):
 Calls Tryz.prog 86 #[.func (.func 131) #[] #[.pointer (some ⟨Bm,0,none⟩)],.func (.func 88) #[] #[]] w (Ju w ks):=by
 have HC:=Qh (JS Bm B w hb hM hlen ks hnd ng hsz);have d:=Qh hnd;have c:=Qh hsz;clear hb hM hlen hnd ng hsz
 go_enter Tryz.func86,Tryz.ntmps86
 go_wp2_with fail
 refine HC.out.mono ?_;rintro e W ⟨v,ss,rfl,A,I,X,D⟩;rcases I.2 with⟨rfl,hz⟩|⟨gb,cap,cur,rfl,L,G,N,O,R,r4⟩
 ·have o:ss=[]:=List.eq_nil_of_length_eq_zero hz
  subst o;have P:=Qh (And.intro A (And.intro I D));have H:=Qh (AnyF.slices_SortFunc_none Tryz.G9 none 0 (.func (.func 88) #[] #[]) W);change Hid (Calls Tryz.prog 130 _ _ _)at H;clear A I D X;go_wp2_with fail;refine H.out.mono ?_;rintro e p ⟨rfl,rfl⟩;go_wp2;go_ret;exact⟨.slice none 0 0,[],rfl,P.out.1,List.Pairwise.nil,by simpa using P.out.2.1,P.out.2.2⟩
 ·have hH:Go.Sort.Holds encStr W gb 0 ss.toArray:=holds_of_block G (by simpa using r4)
  have V:gb<W.heap.size:=(Array.getElem?_eq_some_iff.1 G).1;have hl:ss.length≤1000000000:=by rw[A.length_eq];exact c.out
  have J:=Any.slices_SortFunc Tryz.G8 encStr (fun _=>rfl) py YM 88 #[] gb 0 cap ss.toArray W (enters_of Tryz.func88 (by kernel_rfl) rfl)
   (fun m os q _ x y=>(qm x y _).mono fun e w' ⟨h1,h2⟩=>⟨h1,0,#[],by rw[←h2,Go.Sort.grow_empty];rfl⟩) hH V (by simp;omega)
  change Calls Tryz.prog 130 _ _ _ at J;rw[List.size_toArray]at J;have H:=Qh J;have P:=Qh (And.intro A (And.intro D (And.intro L (And.intro G (And.intro N (And.intro O R))))));clear J A D X I hH V hl r4;go_wp2_with fail;refine H.out.mono ?_;rintro e p ⟨rfl,d',g,os,Y,hs,rfl⟩;have Z:=Qh (And.intro Y hs);clear Y hs;go_wp2;go_ret;obtain⟨A,D,L,G,N,O,R⟩:=P.out;obtain⟨⟨T,_,b⟩,hs⟩:=Z.out;have M:d'.toList.length=ss.length:=by simpa using T
  have U:d'.toList.Perm ss:=by
   have:(d'.extract 0 ss.length).toList.Perm (ss.toArray.extract 0 ss.length).toList:=b;have e:ss.length=d'.size:=by simpa using T.symm
   simpa [e,List.take_of_length_le (Nat.le_of_eq e)]using this
  refine⟨_,d'.toList,rfl,U.trans A,ID (U.trans A) d.out ?_,?_,D.grown (grownBy_sorted _) D.size (fun j E=>by cases E;exact L)⟩
  ·refine List.pairwise_iff_getElem.2 fun i j hi E l=>?_
   have:=hs i j (Nat.zero_le _) l (by rw[M]at E;exact E);rw[EX]at this;simp only[Array.length_toList]at hi E
   simpa [getElem!_pos,hi,E]using this
  ·rw[M]
   have:=ownsRow_sorted (w:=W) (base:=w.heap.size) (n:=g) (e:=9) (os:=os) (ss:=ss) (ts:=d'.toList) M L G N O R;simp only[Array.toArray_toList]at this;exact this
end Tre
namespace Tre
open Mk Mem
def zY:ie Nat where
 enc n:=.int .i64 (n:Int)
 kind:=.int .i64
 isKey _:=rfl
 inj a b h:=by injection h with _ h;omega
 same a:=by simp[Instr.sameBits]
def Ta (w:World) (p:Option Addr) (n:Nat) (ts:List (List UInt8)):Prop:=
 0<n→∃b o,p=some ⟨b,o,none⟩∧b<w.heap.size∧∀i,i<n→w.cell? ⟨b,o+i,none⟩=some (.string (str (ts.getD i [])))
theorem Ta.bW {S:Nat→Prop} (h:Ta w p n ts) (hk:Kept S w w') (hn:∀k,k<w.heap.size→¬S k):Ta w' p n ts:=fun B=>by
 obtain⟨b,o,rfl,A,hc⟩:=h B;exact⟨b,o,rfl,Nat.lt_of_lt_of_le A hk.size,fun i hi=>by rw[World.cell?_of_block (hk.block b A (hn b A))];exact hc i hi⟩
theorem DH {base:Nat} {e:TypeId} {v:Value} (h:w.ownsRow base e 1 v ts.length (ts.map fun x=>.string (str x))):
 ∃p c,v=.slice p ts.length c∧Ta w p ts.length ts:=by
 have D:=h;have B:=h.lt;rcases h.2 with⟨rfl,A⟩|⟨g,cap,cur,rfl,hg,_,h1,h2,_⟩
 ·exact⟨none,0,by rw[A],fun E=>by omega⟩
 ·refine⟨some ⟨g,0,none⟩,cap,rfl,fun A=>⟨g,0,rfl,(B g rfl).2,fun i hi=>?_⟩⟩
  rw[Nat.zero_add,D.cellAt i (by omega),List.getElem?_map,Qd (by omega)];simp[List.getD,hi]
def lZ (f:Nat→Option Nat):Nat→Option Value:=fun x=>(f x).map fun n=>.int .i64 (n:Int)
def Jz (w:World) (t:List aw) (e:Ending) (w':World):Prop:=
 ∃q d zs,e=.returned (.slice q t.length d)∧zs.map NP.m=t∧aY w' q t.length zs∧t.length≤d∧d≤maxLen∧Below w.heap.size w w'∧(∀x,q=some x→w.heap.size≤x.block)∧(∀y∈zs,∀x,y.p=some x→w.heap.size≤x.block)
structure TI (w w4 wr:World) (gt bl g B:Nat) (p:Option Addr) (n c:Nat) (ms:List av) (S T:St) (k:Nat) (zs:List NP):Prop where
 bel:Below w.heap.size w wr
 kp:Kept (p7 gt (some bl)) w4 wr
 lay:ly wr g B p n c (look S)
 row:Rw wr gt zs
 len:zs.length=T.length
 map:cF zY wr bl (lZ (leads ms T k))
 done:∀j,j<k→(zs.getD j aG).m=qG ms T (T.getD j ([],0))
 rest:∀j,k≤j→zs.getD j aG=aG
 yX:∀x∈zs,cT wr x∧∀a,x.p=some a→w4.heap.size≤a.block
theorem TI.step {w4 wr W':World} {gt bl g:Nat} {ms:List av} {S T:St} {k:Nat} {zs:List NP} (hI:TI w w4 wr gt bl g B p n c ms S T k zs) (hk:k<T.length) (vJ:Kept (p7 gt (some bl)) wr W') (hb:Below w.heap.size w W')
 (hw:w.heap.size≤gt∧w.heap.size≤bl∧gt<w4.heap.size∧bl<w4.heap.size) (ax:g<w.heap.size∧B<w.heap.size) {y:NP} (cN:Rw W' gt (zs.set k y)) (uE:cF zY W' bl (lZ (leads ms T (k+1)))) (hy:y.m=qG ms T (T.getD k ([],0))) (uu:cT W' y) (Q7:∀a,y.p=some a→w4.heap.size≤a.block):
 TI w w4 W' gt bl g B p n c ms S T (k+1) (zs.set k y):=by
 have E:k<zs.length:=by rw[hI.len];exact hk
 have off:∀b,b<w.heap.size→¬p7 gt (some bl) b:=fun b hb h=>by
  rcases h with h|h
  ·omega
  ·cases h;omega
 refine⟨hb,hI.kp.trans vJ,⟨hI.lay.obj.bW vJ (off g ax.1),hI.lay.map.kept vJ (off B ax.2)⟩,cN,by rw[List.length_set];exact hI.len,uE,fun j H=>?_,fun j H=>?_,fun x A=>?_⟩
 ·rw[getSet zs k j y E]
  by_cases h:j=k
  ·rw[if_pos h,h];exact hy
  ·rw[if_neg h];exact hI.done j (by omega)
 ·rw[getSet zs k j y E,if_neg (by omega)]
  exact hI.rest j (by omega)
 ·rcases List.mem_or_eq_of_mem_set A with A|rfl
  ·obtain⟨h1,D⟩:=hI.yX x A
   refine⟨h1.kept vJ (fun _ a G h=>?_),D⟩;have:=D a G;rcases h with h|h
   ·omega
   ·injection h with h;omega
  ·exact⟨uu,Q7⟩
theorem K6 {y:MP} (h:ao W b 48 y.cs):
 W.cell? ⟨b,1,none⟩=some (.string (str y.m.target))∧W.cell? ⟨b,2,none⟩=some (.int .u8 (y.m.kind.toNat:Int))∧W.cell? ⟨b,3,none⟩=some (.int .i64 y.m.mode)∧W.cell? ⟨b,4,none⟩=some (.int .i64 y.m.uid)∧W.cell? ⟨b,5,none⟩=some (.int .i64 y.m.gid)∧W.cell? ⟨b,6,none⟩=some (.int .i64 y.m.time)∧W.cell? ⟨b,7,none⟩=some (.slice y.p y.m.body.length y.c):=
 ⟨h.cell 1,h.cell 2,h.cell 3,h.cell 4,h.cell 5,h.cell 6,h.cell 7⟩
theorem tC (S:St) (x:List UInt8):(fv (look S) x).isSome=(look S x).isSome:=by
 unfold fv
 cases look S x<;>rfl
theorem L1 (g B:Nat) (p:Option Addr) (n c:Nat) (xs:List MP) (S:St) (w:World) (hM:dr w p n xs) (hn:n≤1000000000) (hL:ly w g B p n c (look S)) (hA:iU S) (hS:Mj S n) (hsz:S.length≤1000000) (hlen:∀e∈S,e.1.length≤maxLen) (hR:∀x∈xs,x.m.body.length≤140737488351232):
 Calls Tryz.prog 61 #[.pointer (some ⟨g,0,none⟩)] w (Jz w (mA (xs.map MP.m) S)):=by
 obtain⟨i0,hi,fQ,eU,eX⟩:=info_parts EN;have HI:=Qh hi;have lr:=Qh fQ;have jZ:=Qh eU;have lu:=Qh eX;have Cx:=@run_makeMap Tryz.prog;have HM:=Qh hM;have yy:=Qh hM.1;have HL:=Qh hL;have HA:=Qh hA;have HS:=Qh hS;have lf:=Qh hlen;have OE:=Qh hR;have g1:=hL.obj.cell 1;simp only[Qc,Qa,Qb]at g1;have fB:=Qh (KP B w);have dH:Below w.heap.size w (w.alloc (.cells #[.map (some B)] 99)):=(Below.refl _ _).alloc (Qk _) _;have QA:=hL.below dH
 have ib:=Qh (DN w.heap.size B (w.alloc (.cells #[.map (some B)] 99)) ((ao.new w 99 #[.map (some B)]).cell 0) QA.map (fun x v hv=>by
  have:x∈S.map (·.1):=(lT x).1 (by rw[←tC,hv];rfl);obtain⟨e,he,rfl⟩:=List.mem_map.1 this
  exact hlen e he) (S.map fun e:List UInt8 × Nat=>e.1) hA (fun x=>by rw[tC,lT]) (by rw[Qi];omega))
 have PV:=Qh dH;have fZ:=Qh hsz;clear hi fQ eU eX hM hL hA hS hlen hR QA dH hsz
 go_enter Tryz.func61,Tryz.ntmps61
 go_wp2_with fail
 refine fB.out.mono ?_;rintro e w1 ⟨rfl,rfl⟩;go_wp2_with fail;refine ib.out.mono ?_;rintro e A ⟨v,ts,rfl,gS,Pb,u,bZ⟩;obtain⟨p3,c3,rfl,Um⟩:=DH u;have bI:=Qh (PV.out.trans (bZ.mono PV.out.size));have MZ:=Qh Um;have SJ:=Qh (And.intro gS Pb);have Ua:ts.length=S.length:=by rw[gS.length_eq,Qi]
 have MR:=Qh Ua;obtain⟨m,hm⟩:∃m,ts.length=m:=⟨_,rfl⟩
 rw[hm]at MZ MR⊢;have Wp:=Qh hm;have T8:m≤1000000:=by rw[←hm,Ua];exact fZ.out
 clear gS Pb u bZ Um Ua hm g1 fB ib
 go_wp2_with (at_make;refine wpList_make_full _ rfl _ _ 22 rfl A.heap.size 52 i0 _ 9 Tryz.underlying22 HI.out lr.out jZ.out .i64 .i64 _ _ m rfl rfl rfl rfl ?mk1 ?mk2 (Qk _) ?_)
 case mk1=>rw[lu.out];omega
 case mk2=>unfold maxLen;omega
 intro w3 lO bw
 have Mz:=Fm (B:=A.heap.size) (w':=w3) (g:=A.heap.size) (n:=m) (by
  have h9:=lO;rw[tt]at h9
  exact h9)
 have dw:Kept ag A w3:=(Kept.refl ag A).grown bw (fun k h=>by cases h);have fr:Below A.heap.size A w3:=dw.below (Qk _) (fun _ h=>h.elim);have OG:=Qh Mz;have ff:=Qh fr;have X:Hid (A.heap.size<w3.heap.size):=Qh (ao.lt Mz);clear lO bw Mz dw fr;obtain⟨w4,rj⟩:∃w4,w3.alloc (.map #[] 0)=w4:=⟨_,rfl⟩
 have fS:Below w3.heap.size w3 w4:=by rw[←rj];exact(Below.refl _ _).alloc (Qk _) _
 have NC:cF zY w4 w3.heap.size (fun _=>none):=by rw[←rj];exact iR zY w3
 have NF:w4.heap.size=w3.heap.size+1:=by rw[←rj];simp
 obtain⟨T,hT⟩:∃T,k8 S=T:=⟨_,rfl⟩
 have HT:Hid (T=ts.map fun x=>(x,(look S x).getD 0)):=Qh (by rw[←hT];exact G5 HA.out SJ.out.1 SJ.out.2);have Zd:Hid (mA (xs.map MP.m) S=T.map (qG (xs.map MP.m) T)):=Qh (by rw[mA,hT]);have Fw:Hid (T.length=m):=Qh (by rw[HT.out,Qi,Wp.out]);have nW:=Qh (bI.out.trans ((ff.out.trans (fS.mono ff.out.size)).mono bI.out.size));have S2:Hid (Ta w4 p3 m ts):=Qh (MZ.out.bW (Kept.aS (ff.out.trans (fS.mono ff.out.size)) ag) (fun _ _ h=>h.elim))
 have ru:Hid (0<m→∀a,p3=some a→a.block<A.heap.size):=Qh (fun h0 a O=>by
  obtain⟨b,o,he,hb,_⟩:=MZ.out h0;rw[O]at he
  cases he
  exact hb)
 have Va:Hid (TI w w4 w4 A.heap.size w3.heap.size g B p n c (xs.map MP.m) S T 0 (List.replicate m aG)):=Qh
  {bel:=nW.out,kp:=Kept.refl _ _,lay:=HL.out.below nW.out,row:=ao.below OG.out fS X.out,len:=by rw[List.length_replicate,Fw.out]
   map:=by
    have e:lZ (leads (xs.map MP.m) T 0)=fun _=>none:=by funext n;unfold lZ;rw[CU];rfl
    rw[e];exact NC
   done:=fun j hj=>by omega
   rest:=fun j _=>by
    rw[List.getD,List.getElem?_replicate];split<;>rfl
   yX:=fun x H=>by
    rw[(List.mem_replicate.1 H).2]
    exact⟨AV _,fun a h=>by cases h⟩}
 have Wn:=Qh NF;clear fS NC hT OG ff MZ NF;go_upto_region 4 with fail;clear rj Cx;go_wp2_with fail
 go_loopw [6,7,8,9,10,11,24,59] (fun _ _ _ _ _ _ i _ wr=>∃(k:Nat) (zs:List NP),k≤m∧i=.int .i64 (k:Int)∧Hid (TI w w4 wr A.heap.size w3.heap.size g B p n c (xs.map MP.m) S T k zs)) (fun _ _ _ _ _ _ i _ _=>m - (RowKit.intOf i).toNat)
 case atStart=>exact⟨0,List.replicate m aG,Nat.zero_le _,rfl,Va⟩
 case round=>
  obtain⟨k,zs,hk,rfl,D⟩:=hrel
  by_cases ax:k<m
  ·have L:k<T.length:=by rw[Fw.out];exact ax
   have R:k<zs.length:=by rw[D.out.len];exact L
   have Nz:k<ts.length:=by rw[Wp.out];exact ax
   obtain⟨x,H⟩:∃x,ts.getD k []=x:=⟨_,rfl⟩
   have hxm:x∈ts:=by rw[←H,List.getD,Qd Nz];exact List.getElem_mem Nz
   obtain⟨E,O5⟩:=Option.isSome_iff_exists.1 ((lT x).2 (SJ.out.1.mem_iff.1 hxm))
   have r:T.getD k ([],0)=(x,E):=by
    rw[HT.out,List.getD,List.getElem?_map,Qd Nz];rw[List.getD,Qd Nz]at H;simp only[Option.getD_some]at H;simp only[Option.map_some,Option.getD_some,H,O5]
   have Ja:E<n:=HS.out.look O5
   have I:w.heap.size≤A.heap.size∧w.heap.size≤w3.heap.size∧A.heap.size<w4.heap.size∧w3.heap.size<w4.heap.size:=by
    have h1:=bI.out.size;have N:=X.out;have h3:=Wn.out;omega
   have U:g<w.heap.size∧B<w.heap.size:=⟨HL.out.obj.lt,HL.out.map.lt⟩
   obtain⟨b3,o3,VF,fr,zp⟩:=S2.out (by omega);have QG:=ru.out (by omega) _ VF;subst VF
   have TC:¬p7 A.heap.size (some w3.heap.size) b3:=fun h=>by
    have h3:=X.out;rcases h with h|h
    ·simp only at QG;omega
    ·injection h with h;simp only at QG;omega
   have PH:Hid (∀W',Kept (p7 A.heap.size (some w3.heap.size)) w4 W'→∀i,i<m→W'.cell? ⟨b3,o3+i,none⟩=some (.string (str (ts.getD i [])))):=Qh (fun W' hk i hi=>by
    rw[World.cell?_of_block (hk.block b3 fr TC)];exact zp i hi)
   have z0:=PH.out wr D.out.kp k ax;rw[H]at z0;have g0:=D.out.lay.obj.cell 0;have g1:=D.out.lay.obj.cell 1;simp only[Qc,Qa,Qb]at g0 g1
   have lk:(Instr.lookup 99 (.map (some B)) (.string (str x)) false).run Tryz.prog wr=.ok (.int .i64 (E:Int)) wr:=by
    have h:=D.out.lay.map.look (P:=Tryz.prog) Tryz.underlying99 Tryz.underlying9 (z:=.int .i64 0) (fun w=>Tryz.zeroValue3 w) x;rw[show fv (look S) x=some (.int .i64 (E:Int)) by rw[fv,O5];rfl]at h;exact h
   obtain⟨b1,o1,A8,cf,mM,QH⟩:=(HM.out.below D.out.bel).jO Ja;subst A8;have Kb:=iZ xs E;have Xc:=OE.out _ (lL xs E (by rw[yy.out];exact Ja));obtain⟨y,hy⟩:∃y,xs.getD E bP=y:=⟨_,rfl⟩
   rw[hy]at mM QH Kb Xc;obtain⟨c0,c1,c2,c3,c4,c5,c6,c7⟩:=QH;obtain⟨W5,nI⟩:∃W5,wr.alloc (.cells y.cs 48)=W5:=⟨_,rfl⟩
   have uo:Below wr.heap.size wr W5:=by rw[←nI];exact(Below.refl _ _).alloc (Qk _) _
   have Vf:ao W5 wr.heap.size 48 y.cs:=by rw[←nI];exact ao.new wr _ _
   have xb:=Qh uo;have UZ:=Qh Vf;have PB:Hid (∀w',Below W5.heap.size W5 w'→w'.cell? ⟨wr.heap.size,1,none⟩=some (.string (str y.m.target))∧w'.cell? ⟨wr.heap.size,2,none⟩=some (.int .u8 (y.m.kind.toNat:Int))∧w'.cell? ⟨wr.heap.size,3,none⟩=some (.int .i64 y.m.mode)∧w'.cell? ⟨wr.heap.size,4,none⟩=some (.int .i64 y.m.uid)∧w'.cell? ⟨wr.heap.size,5,none⟩=some (.int .i64 y.m.gid)∧w'.cell? ⟨wr.heap.size,6,none⟩=some (.int .i64 y.m.time)∧w'.cell? ⟨wr.heap.size,7,none⟩=some (.slice y.p y.m.body.length y.c)):=Qh (fun w' h=>K6 (Vf.below h Vf.lt));have V:Hid (Below W5.heap.size W5 W5.drew):=Qh (below_drewN (Below.refl W5.heap.size W5) 1);have MI:Hid (∀w',Below W5.heap.size W5 w'→Calls Tryz.prog 49 #[.slice y.p y.m.body.length y.c] w' (iM w' y.m.body.length y.m.body)):=Qh (fun w' h=>j6 y.p y.m.body.length y.c y.m.body w' ((mM.below uo).below h).gZ rfl Xc);unfold iM at MI;have G:=Qh (And.intro L (And.intro R (And.intro r (And.intro I U))));have yE:=Qh Kb;have MM:Hid (A.heap.size<wr.heap.size):=Qh (ao.lt D.out.row);have X8:(E:Int)<(n:Int):=by omega
   have Ud:(0:Int)≤(E:Int):=by omega
   have ab2:(k:Int)<(m:Int):=by omega
   unfold MP.cs cO at nI;have HX:=Qh H;clear L R Nz hxm r Ja I U fr zp QG TC cf mM Kb Xc hy uo Vf O5 H;go_upto_region 9 with fail;clear nI c0 c1 c2 c3 c4 c5 c6 c7 g0 g1 lk z0;go_wp2_with fail
   go_region_held_law (fun w'=>w'.cell? ⟨wr.heap.size,1,none⟩=some (.string (str y.m.target))∧w'.cell? ⟨wr.heap.size,2,none⟩=some (.int .u8 (y.m.kind.toNat:Int))∧w'.cell? ⟨wr.heap.size,3,none⟩=some (.int .i64 y.m.mode)∧w'.cell? ⟨wr.heap.size,4,none⟩=some (.int .i64 y.m.uid)∧w'.cell? ⟨wr.heap.size,5,none⟩=some (.int .i64 y.m.gid)∧w'.cell? ⟨wr.heap.size,6,none⟩=some (.int .i64 y.m.time)∧w'.cell? ⟨wr.heap.size,7,none⟩=some (.slice y.p y.m.body.length y.c)) (first|with_reducible exact PB.out _ V.out|exact K6 (AE pn.out (Nat.ne_of_lt MM.out) _ _ _ _ _ _ _ _ _)) (first
    |(go_at_call 49
      refine(MI.out _ ?_).mono ?_
      (with_reducible exact V.out)
      rintro e wa ⟨q,d,rfl,hle,Kv,pH,Cy,nb⟩;have V:=Qh (V.out.trans (nb.mono V.out.size));have pn:=Qh (UZ.out.below V.out UZ.out.lt);have J:Rw wa A.heap.size zs:=ao.below (ao.below D.out.row xb.out MM.out) V.out (Nat.lt_of_lt_of_le MM.out xb.out.size);have xg:=Qh J;have P:=Qh (And.intro hle (And.intro Kv (And.intro pH Cy)));obtain⟨r0,r1,r2,r3,r4,r5,r6,r7,r8⟩:=J.dD G.out.2.1;have f0:=ao.frozen J (k*9);have f1:=ao.frozen J (k*9+1);have f2:=ao.frozen J (k*9+2);have f3:=ao.frozen J (k*9+3);have f4:=ao.frozen J (k*9+4);have f5:=ao.frozen J (k*9+5);have f6:=ao.frozen J (k*9+6);have f7:=ao.frozen J (k*9+7);have f8:=ao.frozen J (k*9+8)
      clear hle Kv pH Cy nb J))
   obtain⟨W6,Ew⟩:∃W6,(((((((((wa.setCell ⟨A.heap.size,k*9,none⟩ (.string (str x))).setCell ⟨A.heap.size,k*9+1,none⟩ (.string (str y.m.target))).setCell ⟨A.heap.size,k*9+2,none⟩ (.string ⟨#[]⟩)).setCell ⟨A.heap.size,k*9+3,none⟩ (.int .u8 (y.m.kind.toNat:Int))).setCell ⟨A.heap.size,k*9+4,none⟩ (.int .i64 y.m.mode)).setCell ⟨A.heap.size,k*9+5,none⟩ (.int .i64 y.m.uid)).setCell ⟨A.heap.size,k*9+6,none⟩ (.int .i64 y.m.gid)).setCell ⟨A.heap.size,k*9+7,none⟩ (.int .i64 y.m.time)).setCell ⟨A.heap.size,k*9+8,none⟩ (.slice q y.m.body.length d))=W6:=⟨_,rfl⟩
   have ED:Kept (aA A.heap.size) wa W6:=by rw[←Ew];exact Fl (S:=aA A.heap.size) rfl _ _ _ _ _ _ _ _ _
   have Pa:Rw W6 A.heap.size (zs.set k ⟨gU x y.m [],q,d⟩):=by rw[←Ew];exact xg.out.set G.out.2.1 ⟨gU x y.m [],q,d⟩
   have O3:ao W6 wr.heap.size 48 y.cs:=by rw[←Ew];exact AE pn.out (Nat.ne_of_lt MM.out) _ _ _ _ _ _ _ _ _
   rw[Ew];clear Ew r0 r1 r2 r3 r4 r5 r6 r7 r8 f0 f1 f2 f3 f4 f5 f6 f7 f8;have Yq:Below wr.heap.size wr wa:=xb.out.trans (V.out.mono xb.out.size);have Jh:Hid (Kept (p7 A.heap.size (some w3.heap.size)) wr W6):=Qh ((Kept.aS Yq _).trans (ED.mono (fun k h=>.inl h)))
   have t:Hid (∀a,q=some a→w4.heap.size≤a.block):=Qh (fun a O=>by
    have h1:=P.out.2.2.2 a O;have N:=xb.out.size;have h3:=D.out.kp.size;have h4:W5.heap.size≤a.block:=h1
    omega)
   have Y:Hid (cT W6 ⟨gU x y.m [],q,d⟩):=Qh ⟨P.out.2.2.1.kept ED (fun _ a O h=>by
    have h1:=t.out a O;have N:a.block=A.heap.size:=h;have h3:=G.out.2.2.2.1.2.2.1
    omega),P.out.1,P.out.2.1⟩
   have nu:Hid (cF zY W6 w3.heap.size (lZ (leads (xs.map MP.m) T k))):=Qh ((D.out.map.kept (Kept.aS Yq ag) (fun h=>h.elim)).kept ED (fun e=>by have h1:=X.out;have N:w3.heap.size=A.heap.size:=e;omega));have Jo:=Qh Pa
   have mE:Hid (qG (xs.map MP.m) T (T.getD k ([],0))=gU x y.m (if y.m.kind=48 then ni T E else[])):=Qh (by
    rw[G.out.2.2.1];unfold qG
    rw[yE.out])
   have y2:=O3.cell 2;have ek:=oJ y.m.kind 48 48 rfl;obtain⟨kn,bQ⟩:∃kn:Int,(y.m.kind.toNat:Int)=kn:=⟨_,rfl⟩
   simp only[MP.cs,cO,Qc,Qa,Qb]at y2;rw[bQ]at y2 ek;clear Yq ED Pa O3 bQ
   by_cases W:y.m.kind=48
   ·rw[decide_eq_true W]at ek
    have RD:=Qh W;have V5:Hid (((xs.map MP.m).getD (T.getD k ([],0)).2 cH).kind=48):=Qh (by rw[G.out.2.2.1,yE.out];exact W);have Z:=Qh (nu.out.look_ok (P:=Tryz.prog) Tryz.underlying156 Tryz.underlying3 (z:=.int .i64 0) (fun w=>Tryz.zeroValue3 w) E);have S7:Hid ((T.getD k ([],0)).2=E):=Qh (by rw[G.out.2.2.1]);obtain⟨fo,uC⟩:∃fo,leads (xs.map MP.m) T k E=fo:=⟨_,rfl⟩
    have xd:=Qh uC;unfold lZ at Z;rw[uC]at Z;clear W uC
    cases fo with
    |none=>
     have Rg:(Instr.lookup 156 (.map (some w3.heap.size)) (.int .i64 (E:Int)) true).run Tryz.prog W6=.ok (.tuple #[.int .i64 0,.bool false]) W6:=Z.out;clear Z
     go_wp2_with (at_mapUpdate;refine cQ (K:=zY) rfl (.tmp 68) (.tmp 69) (.tmp 70) rfl Tryz.underlying156 Tryz.underlying3 w3.heap.size nu.out rfl E rfl (.int .i64 (k:Int)) rfl ?_)
     intro w7 rJ uv Q1;have QU:Kept (p7 A.heap.size (some w3.heap.size)) W6 w7:=uv.out.mono (fun k h=>.inr (by rw[show k=w3.heap.size from h]));have SB:=Qh (Jh.out.trans QU);have M:Rw w7 A.heap.size (zs.set k ⟨gU x y.m [],q,d⟩):=ao.bW Jo.out uv.out (fun e=>by have h1:=X.out;have N:A.heap.size=w3.heap.size:=e;omega);have z0:=PH.out w7 (D.out.kp.trans SB.out) k ax;rw[HX.out]at z0
     have Tn:cF zY w7 w3.heap.size (lZ (leads (xs.map MP.m) T (k+1))):=by
      have e:=Hc G.out.1 V5.out (by rw[S7.out];exact xd.out)
      have e2:lZ (leads (xs.map MP.m) T (k+1))=fun y=>if y=E then some (.int .i64 (k:Int))else lZ (leads (xs.map MP.m) T k) y:=by
       funext v
       unfold lZ;rw[e,S7.out]
       by_cases h:v=E<;>simp[h]
      rw[e2];exact rJ.out
     have Tm:ni T E=x:=by
      have h:=th G.out.1 V5.out;rw[S7.out,xd.out,Option.getD_none,G.out.2.2.1]at h;exact h
     have HN:Hid (TI w w4 (w7.setCell ⟨A.heap.size,k*9+2,none⟩ (.string (str x))) A.heap.size w3.heap.size g B (some ⟨b1,o1,none⟩) n c (xs.map MP.m) S T (k+1) (zs.set k ⟨gU x y.m x,q,d⟩)):=by
      have vJ:Kept (p7 A.heap.size (some w3.heap.size)) wr (w7.setCell ⟨A.heap.size,k*9+2,none⟩ (.string (str x))):=SB.out.setCell (a:=⟨A.heap.size,k*9+2,none⟩) (.inr (.inl rfl)) _;have Q2:Kept (aA A.heap.size) w7 (w7.setCell ⟨A.heap.size,k*9+2,none⟩ (.string (str x))):=(Kept.refl (aA A.heap.size) _).setCell (a:=⟨A.heap.size,k*9+2,none⟩) (.inr rfl) _;obtain⟨L,R,r,I,U⟩:=G.out
      have u:Rw (w7.setCell ⟨A.heap.size,k*9+2,none⟩ (.string (str x))) A.heap.size (zs.set k ⟨gU x y.m x,q,d⟩):=by
       have h:=Rw.lead (k:=k) M (by rw[List.length_set];exact R) x;rw[List.set_set,getSet zs k k _ R,if_pos rfl]at h;exact h
      refine Qh (D.out.step L vJ (D.out.bel.trans (vJ.below D.out.bel.size (fun b hb=>by
       rcases hb with hb|hb
       ·rw[hb];exact I.1
       ·injection hb with hb;rw[hb];exact I.2.1))) I U u (Tn.kept Q2 (fun e=>by have h1:=X.out;have N:w3.heap.size=A.heap.size:=e;omega)) ?_ ?_ ?_)
      ·rw[mE.out]
       show gU x y.m x=_;rw[if_pos RD.out,Tm]
      ·exact⟨(Y.out.gZ.kept (QU.setCell (a:=⟨A.heap.size,k*9+2,none⟩) (.inr (.inl rfl)) _) (fun _ a O h=>by
        have h1:=t.out a O;rcases h with h|h
        ·omega
        ·injection h with h;omega)),Y.out.le,Y.out.mx⟩
      ·exact t.out
     have r2:=(M.dD (show k<(zs.set k ⟨gU x y.m [],q,d⟩).length by rw[List.length_set];exact G.out.2.1)).2.2.1;have f2:=ao.frozen M (k*9+2);have Z3:(k:Int)<(m:Int):=by omega
     clear QU M Tn Tm rJ uv Q1;go_wp2;go_roundw
     case rel=>exact⟨k+1,_,by omega,by go_num,HN⟩
     case measure=>simp[RowKit.intOf];omega
    |some f=>
     have ZT:=K0 xd.out;have ZU:f<m:=by omega
     have Rg:(Instr.lookup 156 (.map (some w3.heap.size)) (.int .i64 (E:Int)) true).run Tryz.prog W6=.ok (.tuple #[.int .i64 (f:Int),.bool true]) W6:=Z.out;obtain⟨l,hl⟩:∃l,ts.getD f []=l:=⟨_,rfl⟩
     have z0:=PH.out W6 (D.out.kp.trans Jh.out) f ZU;rw[hl]at z0
     have Tn:cF zY W6 w3.heap.size (lZ (leads (xs.map MP.m) T (k+1))):=by
      rw[Hd G.out.1 (by rw[S7.out];exact xd.out)];exact nu.out
     have Tm:ni T E=l:=by
      have h:=th G.out.1 V5.out;rw[S7.out,xd.out,Option.getD_some]at h;rw[h,←hl,HT.out,List.getD,List.getD,List.getElem?_map,Qd (show f<ts.length by rw[Wp.out];exact ZU)];rfl
     have M:=Jo.out
     have HN:Hid (TI w w4 (W6.setCell ⟨A.heap.size,k*9+2,none⟩ (.string (str l))) A.heap.size w3.heap.size g B (some ⟨b1,o1,none⟩) n c (xs.map MP.m) S T (k+1) (zs.set k ⟨gU x y.m l,q,d⟩)):=by
      have vJ:Kept (p7 A.heap.size (some w3.heap.size)) wr (W6.setCell ⟨A.heap.size,k*9+2,none⟩ (.string (str l))):=Jh.out.setCell (a:=⟨A.heap.size,k*9+2,none⟩) (.inr (.inl rfl)) _;have Q2:Kept (aA A.heap.size) W6 (W6.setCell ⟨A.heap.size,k*9+2,none⟩ (.string (str l))):=(Kept.refl (aA A.heap.size) _).setCell (a:=⟨A.heap.size,k*9+2,none⟩) (.inr rfl) _;obtain⟨L,R,r,I,U⟩:=G.out
      have u:Rw (W6.setCell ⟨A.heap.size,k*9+2,none⟩ (.string (str l))) A.heap.size (zs.set k ⟨gU x y.m l,q,d⟩):=by
       have h:=Rw.lead (k:=k) M (by rw[List.length_set];exact R) l;rw[List.set_set,getSet zs k k _ R,if_pos rfl]at h;exact h
      refine Qh (D.out.step L vJ (D.out.bel.trans (vJ.below D.out.bel.size (fun b hb=>by
       rcases hb with hb|hb
       ·rw[hb];exact I.1
       ·injection hb with hb;rw[hb];exact I.2.1))) I U u (Tn.kept Q2 (fun e=>by have h1:=X.out;have N:w3.heap.size=A.heap.size:=e;omega)) ?_ ?_ ?_)
      ·rw[mE.out]
       show gU x y.m l=_;rw[if_pos RD.out,Tm]
      ·exact⟨(Y.out.gZ.kept ((Kept.refl (p7 A.heap.size (some w3.heap.size)) W6).setCell (a:=⟨A.heap.size,k*9+2,none⟩) (.inr (.inl rfl)) _) (fun _ a O h=>by
        have h1:=t.out a O;rcases h with h|h
        ·omega
        ·injection h with h;omega)),Y.out.le,Y.out.mx⟩
      ·exact t.out
     have r2:=(M.dD (show k<(zs.set k ⟨gU x y.m [],q,d⟩).length by rw[List.length_set];exact G.out.2.1)).2.2.1;have f2:=ao.frozen M (k*9+2);have Z3:(k:Int)<(m:Int):=by omega
     have hfz:(f:Int)<(m:Int):=by omega
     have hf0:(0:Int)≤(f:Int):=by omega
     clear M Tn Tm hl Z;go_wp2;go_roundw
     case rel=>exact⟨k+1,_,by omega,by go_num,HN⟩
     case measure=>simp[RowKit.intOf];omega
   ·rw[decide_eq_false W]at ek
    have HN:Hid (TI w w4 W6 A.heap.size w3.heap.size g B (some ⟨b1,o1,none⟩) n c (xs.map MP.m) S T (k+1) (zs.set k ⟨gU x y.m [],q,d⟩)):=by
     obtain⟨L,R,r,I,U⟩:=G.out
     refine Qh (D.out.step L Jh.out (D.out.bel.trans (Jh.out.below D.out.bel.size (fun b hb=>by
      rcases hb with hb|hb
      ·rw[hb];exact I.1
      ·injection hb with hb;rw[hb];exact I.2.1))) I U Jo.out ?_ ?_ Y.out t.out)
     ·rw[zM L (by rw[r,yE.out];exact W)]
      exact nu.out
     ·rw[mE.out,if_neg W]
    clear W;go_wp2;go_roundw
    case rel=>exact⟨k+1,_,by omega,by go_num,HN⟩
    case measure=>simp[RowKit.intOf];omega
  ·have ng:¬((k:Int)<(m:Int)):=by omega
   have P:Hid (zs.map NP.m=mA (xs.map MP.m) S∧aY wr (some ⟨A.heap.size,0,none⟩) (mA (xs.map MP.m) S).length zs∧(mA (xs.map MP.m) S).length=m):=Qh (by
    have hl:=D.out.len;have Z3:k=T.length:=by rw[Fw.out];omega
    have e:zs.map NP.m=mA (xs.map MP.m) S:=by
     rw[Zd.out];apply List.ext_getElem
     ·rw[Qi,Qi,hl]
     ·intro i h1 N
      rw[Qi]at h1 N;have:=D.out.done i (by omega);rw[List.getD,Qd h1,List.getD,Qd N]at this
      simpa using this
    have hlen:(mA (xs.map MP.m) S).length=m:=by rw[Zd.out,Qi,Fw.out]
    refine⟨e,?_,hlen⟩;have:=D.out.row.nodes (fun x H=>(D.out.yX x H).1);rw[hl,Fw.out]at this
    rw[hlen];exact this)
   go_wp2;go_ret;refine⟨some ⟨A.heap.size,0,none⟩,m,zs,by rw[P.out.2.2];rfl,P.out.1,P.out.2.1,by rw[P.out.2.2];exact Qk _,by unfold maxLen;omega,D.out.bel,fun x H=>?_,fun y hy x H=>?_⟩
   ·cases H
    exact bI.out.size
   ·exact Nat.le_trans nW.out.size ((D.out.yX y hy).2 x H)
end Tre
namespace oa
open Mk Mem Tre
variable {m:av}
theorem Oi {g n:Nat} (h:w'.ownsRow B 48 8 (.slice (some ⟨g,0,none⟩) n n) n (madeCells #[.string ⟨#[]⟩,.string ⟨#[]⟩,.int .u8 0,.int .i64 0,.int .i64 0,.int .i64 0,.int .i64 0,.slice none 0 0] (n*8)).toList):Rm w' g (List.replicate n bP):=by
 rcases h.2 with⟨h1,_⟩|⟨g',cap,cur,h1,_,hg,h2,h3,h4,h5⟩
 ·cases h1
 ·cases h1
  refine⟨cur,hg,by rw[List.length_replicate];omega,fun i hi j D=>?_⟩;rw[List.length_replicate]at hi
  have e:(List.replicate n bP).getD i bP=bP:=by
   rw[List.getD,List.getElem?_replicate,if_pos hi];rfl
  have A:cur.toList[8*i+j]? =(madeCells #[Value.string ⟨#[]⟩,.string ⟨#[]⟩,.int .u8 0,.int .i64 0,.int .i64 0,.int .i64 0,.int .i64 0,.slice none 0 0] (n*8)).toList[8*i+j]? :=by
   rw[←h5,List.getElem?_take,if_pos (by omega)]
  rw[e,←Array.getElem?_toList,A,Array.getElem?_toList];unfold madeCells;rw[Array.getElem?_map,Array.getElem?_range,if_pos (by omega)];simp only[Option.map_some];rw[show(8*i+j) % (#[Value.string ⟨#[]⟩,.string ⟨#[]⟩,.int .u8 0,.int .i64 0,.int .i64 0,.int .i64 0,.int .i64 0,.slice none 0 0]:Array Value).size=j by show(8*i+j) % 8=j;omega]
  match j,D with
  |0,_=>rfl
  |1,_=>rfl
  |2,_=>rfl
  |3,_=>rfl
  |4,_=>rfl
  |5,_=>rfl
  |6,_=>rfl
  |7,_=>rfl
theorem yo {g:Nat} {ys:List MP} (h:Rm W g ys) {k j:Nat} (hk:k<ys.length) (hj:j<8) (u:Value) (y:MP) (hy:∀i,i<8→y.cs[i]? =if i=j then some u else(ys.getD k bP).cs[i]?):Rm (W.setCell ⟨g,k*8+j,none⟩ u) g (ys.set k y):=by
 obtain⟨cur,D,hs,hc⟩:=h;refine⟨cur.setIfInBounds (k*8+j) u,bL D _ u,by rw[List.length_set];simpa using hs,fun i hi l hl=>?_⟩;rw[List.length_set]at hi;rw[mK ys k i y hk,Array.getElem?_setIfInBounds]
 by_cases B:i=k
 ·subst B
  rw[if_pos rfl,hy l hl]
  by_cases A:l=j
  ·subst A
   rw[if_pos (by omega),if_pos (by omega),if_pos rfl]
  ·rw[if_neg (by omega),if_neg A,hc i hi l hl]
 ·rw[if_neg B,if_neg (by omega),hc i hi l hl]
theorem Oh {g:Nat} {ys:List MP} {k:Nat} (h:Rm W g (ys.set k ⟨m,p,c⟩)) (hk:k<ys.length) (l:List UInt8):
 Rm ((W.setCell ⟨g,k*8+2,none⟩ (.int .u8 49)).setCell ⟨g,k*8+1,none⟩ (.string (str l))) g (ys.set k ⟨{m with kind:=49,target:=l},p,c⟩):=by
 have B:k<(ys.set k ⟨m,p,c⟩).length:=by rw[List.length_set];exact hk
 have h1:=yo h B (j:=2) (by omega) (.int .u8 49) ⟨{m with kind:=49},p,c⟩ (fun i hi=>by
  rw[mK ys k k _ hk,if_pos rfl]
  match i,hi with
  |0,_=>rfl
  |1,_=>rfl
  |2,_=>rfl
  |3,_=>rfl
  |4,_=>rfl
  |5,_=>rfl
  |6,_=>rfl
  |7,_=>rfl)
 rw[List.set_set]at h1
 have A:=yo h1 (k:=k) (j:=1) (by rw[List.length_set];exact hk) (by omega) (.string (str l)) ⟨{m with kind:=49,target:=l},p,c⟩ (fun i hi=>by
  rw[mK ys k k _ hk,if_pos rfl]
  match i,hi with
  |0,_=>rfl
  |1,_=>rfl
  |2,_=>rfl
  |3,_=>rfl
  |4,_=>rfl
  |5,_=>rfl
  |6,_=>rfl
  |7,_=>rfl)
 rw[List.set_set]at A;exact A
theorem LF {g:Nat} {ys:List MP} {k:Nat} (h:Rm W g (ys.set k ⟨m,p,c⟩)) (hk:k<ys.length) (b:List UInt8) (q:Option Addr) (d:Nat):
 Rm (W.setCell ⟨g,k*8+7,none⟩ (.slice q b.length d)) g (ys.set k ⟨{m with body:=b},q,d⟩):=by
 have A:k<(ys.set k ⟨m,p,c⟩).length:=by rw[List.length_set];exact hk
 have h1:=yo h A (j:=7) (by omega) (.slice q b.length d) ⟨{m with body:=b},q,d⟩ (fun i hi=>by
  rw[mK ys k k _ hk,if_pos rfl]
  match i,hi with
  |0,_=>rfl
  |1,_=>rfl
  |2,_=>rfl
  |3,_=>rfl
  |4,_=>rfl
  |5,_=>rfl
  |6,_=>rfl
  |7,_=>rfl)
 rw[List.set_set]at h1;exact h1
theorem JQ (w:World) (m:av) (h:m.body=[]):dq w ⟨m,none,0⟩:=by
 refine⟨?_,?_,Nat.zero_le _⟩
 ·show cB w none m.body.length m.body
  rw[h];exact cB.none_ w none
 ·show m.body.length≤0
  rw[h];exact Qk _
structure yI (w w2 w4 wr:World) (M g:Nat) (t:List aw) (os:List (List UInt8)) (n k:Nat) (ys:List MP):Prop where
 bel:Below w2.heap.size w2 wr
 kp:w4.heap.size≤wr.heap.size
 map:cF ik wr M (fv (cu t os k))
 row:Rm wr g ys
 len:ys.length=n
 done:∀i,i<k→(ys.getD i bP).m=cW t os i
 yX:∀y∈ys,dq wr y∧∀a,y.p=some a→w4.heap.size≤a.block
section
variable {w w2 w4 wr W':World} {M g n k:Nat} {t:List aw} {os:List (List UInt8)} {ys:List MP}
theorem yI.step (h:yI w w2 w4 wr M g t os n k ys) (hk:k<n) (vJ:Kept (p7 g (some M)) wr W') (hg:w2.heap.size≤g∧g<w4.heap.size∧w2.heap.size≤M∧M<w4.heap.size)
 {y:MP} (cN:Rm W' g (ys.set k y)) (uE:cF ik W' M (fv (cu t os (k+1)))) (hy:y.m=cW t os k) (uu:dq W' y) (Q7:∀a,y.p=some a→w4.heap.size≤a.block):
 yI w w2 w4 W' M g t os n (k+1) (ys.set k y):=by
 have E:k<ys.length:=by rw[h.len];exact hk
 refine⟨h.bel.trans (vJ.below h.bel.size (fun b hb=>?_)),Nat.le_trans h.kp vJ.size,uE,cN,by rw[List.length_set];exact h.len,fun j G=>?_,fun x A=>?_⟩
 ·rcases hb with hb|hb
  ·rw[hb];exact hg.1
  ·injection hb with hb;rw[hb];exact hg.2.2.1
 ·rw[mK ys k j y E]
  by_cases h1:j=k
  ·rw[if_pos h1,h1];exact hy
  ·rw[if_neg h1];exact h.done j (by omega)
 ·rcases List.mem_or_eq_of_mem_set A with A|rfl
  ·obtain⟨h1,B⟩:=h.yX x A
   refine⟨h1.kept vJ (fun _ a D e=>?_),B⟩;have:=B a D;rcases e with e|e
   ·omega
   ·injection e with e;omega
  ·exact⟨uu,Q7⟩
end
theorem K3 {t:List aw} {os:List (List UInt8)} (hg:bD t=true) (ho:cC t os):Rh t os=(dY t os,0):=by
 unfold Rh;rw[if_pos ((tD hg os).2 ho)]
theorem Uz {t:List aw} {os:List (List UInt8)} (hg:bD t=true) (ho:¬cC t os):Rh t os=([],1):=by
 unfold Rh;rw[if_neg (fun h=>ho ((tD hg os).1 h))]
theorem xY (w:World) (p:Option Addr) (n c:Nat) (xs:List NP) (a:Option Addr) (m d:Nat) (os:List (List UInt8)) (hN:ob w p n c xs) (hO:Ef w a m d os):
 Calls Tryz.prog 21 #[.slice p n c,.slice a m d] w (nZ w (Rh (xs.map NP.m) os)):=by
 obtain⟨i0,hi,fQ,eU,eX⟩:=info_parts EL;have HI:=Qh hi;have lr:=Qh fQ;have jZ:=Qh eU;have lu:=Qh eX;have Cx:=@run_makeMap Tryz.prog;have U2:=Qh (zC w p n c xs a m d os hN hO);have TN:=hN.few;have HG:=Qh hN.Qt;have HO:=Qh hO.at_;have OE:=Qh hN.room;have HXA:=Qh hN.at_.2.1;obtain⟨t,ht⟩:∃t,xs.map NP.m=t:=⟨_,rfl⟩
 have HT:=Qh ht;unfold Ec at U2;rw[ht]at U2 HG⊢;clear hi fQ eU eX hN hO ht
 go_enter Tryz.func21,Tryz.ntmps21
 go_wp2_with fail
 refine U2.out.mono ?_;rintro e A (⟨q,zs,rfl,htk,hzl,hol,ri,Kz,g⟩|⟨rfl,uF,g⟩)
 ·have Wo:=Qh htk
  have RR:=Qh hzl;have Mh:=Qh hol;have mE:=Qh ri;have PN:=Qh Kz;have bI:=Qh g;clear htk hzl hol ri Kz g U2
  go_wp2_with (at_make;refine wpList_make_full _ rfl _ _ 38 rfl A.heap.size 48 i0 _ 8 Tryz.underlying38 HI.out lr.out jZ.out .i64 .i64 _ _ n rfl rfl rfl rfl (by rw[lu.out];omega) (by unfold maxLen;omega) (Qk _) ?_)
  intro w3 lO bw;have Mz:Rm w3 A.heap.size (List.replicate n bP):=Oi (B:=A.heap.size) lO;have dw:Kept ag A w3:=(Kept.refl ag A).grown bw (fun k h=>by cases h);have o:Below A.heap.size A w3:=dw.below (Qk _) (fun _ h=>h.elim)
  have XZ:A.heap.size<w3.heap.size:=by
   obtain⟨cur,hc,_⟩:=Mz;exact hc.lt
  obtain⟨w4,rj⟩:∃w4,w3.alloc (.map #[] 0)=w4:=⟨_,rfl⟩
  have fS:Below w3.heap.size w3 w4:=by rw[←rj];exact(Below.refl _ _).alloc (Qk _) _
  have NC:cF ik w4 w3.heap.size (fun _=>none):=by rw[←rj];exact iR ik w3
  have NF:w4.heap.size=w3.heap.size+1:=by rw[←rj];simp
  have SE:Hid (yI w A w4 w4 w3.heap.size A.heap.size t os n 0 (List.replicate n bP)):=Qh
   {bel:=o.trans (fS.mono o.size)
    kp:=Qk _
    map:=by
     have e:fv (cu t os 0)=fun _=>none:=by funext l;rfl
     rw[e];exact NC
    row:=tR Mz fS
    len:=by simp
    done:=fun i hi=>by omega
    yX:=fun y hy=>by
     rw[(List.mem_replicate.1 hy).2]
     exact⟨JQ _ Pt rfl,fun a h=>by cases h⟩}
  have H:Hid (A.heap.size≤A.heap.size∧A.heap.size<w4.heap.size∧A.heap.size≤w3.heap.size∧w3.heap.size<w4.heap.size):=Qh ⟨Qk _,by omega,by omega,by omega⟩;obtain⟨M,hM⟩:∃M,w3.heap.size=M:=⟨_,rfl⟩
  rw[hM]at SE H;clear lO bw Mz dw o fS NC NF XZ;go_upto_region 6 with fail;clear rj Cx hM;go_wp2_with fail
  go_loopw [10,11,12,13,28] (fun _ _ _ _ i wr=>∃(k:Nat) (ys:List MP),k≤n∧i=.int .i64 (k:Int)∧Hid (yI w A w4 wr M A.heap.size t os n k ys)) (fun _ _ _ _ i _=>n - (RowKit.intOf i).toNat)
  case atStart=>exact⟨0,_,Nat.zero_le _,rfl,SE⟩
  case round=>
   obtain⟨k,ys,hk,rfl,G⟩:=hrel
   by_cases R:k<n
   ·have oD:k<ys.length:=by rw[G.out.len];exact R
    obtain⟨b1,o1,rfl,cf,mM,hc⟩:=(mE.out.below G.out.bel).dD R;have dU:=pZ Wo.out R;obtain⟨v,hv⟩:∃v,zs.getD k aG=v:=⟨_,rfl⟩
    rw[hv]at mM hc dU;have jR:v∈xs:=List.mem_of_find?_eq_some dU
    have u:nodeAt t (os.getD k [])=v.m:=by
     unfold nodeAt;rw[←HT.out,←pE,dU];rfl
    have rH:=dJ HG.out (x:=v.m) (by rw[←HT.out];exact List.mem_map.2 ⟨v,jR,rfl⟩);have Pc:=OE.out v jR;have HXB:=Qh (HXA.out v jR);obtain⟨c0,c1,c2,c3,c4,c5,c6,c7,c8⟩:=hc;obtain⟨W5,nI⟩:∃W5,wr.alloc (.cells v.cs 52)=W5:=⟨_,rfl⟩
    have uo:Below wr.heap.size wr W5:=by rw[←nI];exact(Below.refl _ _).alloc (Qk _) _
    have I:ao W5 wr.heap.size 52 v.cs:=by rw[←nI];exact ao.new wr _ _
    have ZA:=G.out.map.kept (Kept.aS uo ag) (fun h=>h.elim);have Vq:=tR G.out.row uo;have ZX:A.heap.size<wr.heap.size:=by have h1:=H.out.2.1;have N:=G.out.kp;omega
    have HGW:=Qh ZX;unfold NP.cs fT at nI;have ek:=zG v.m.kind 48 48 rfl;obtain⟨kn,bQ⟩:∃kn:Int,(v.m.kind.toNat:Int)=kn:=⟨_,rfl⟩
    have fR:=Qh bQ;have z0:=I.cell 0;have z1:=I.cell 1;have z3:=I.cell 3;have z4:=I.cell 4;have z5:=I.cell 5;have z6:=I.cell 6;have z7:=I.cell 7;simp only[NP.cs,fT,Qc,Qa,Qb]at z0 z1 z3 z4 z5 z6 z7;rw[bQ]at nI c3 z3 ek;obtain⟨r0,r1,r2,r3,r4,r5,r6,r7⟩:=Vq.jO oD
    have D:∀i,W5.frozen? ⟨A.heap.size,i,none⟩=false:=fun i=>by
     obtain⟨cur,hc,_⟩:=Vq;exact hc.frozen i
    have f0:=D (k*8);have f1:=D (k*8+1);have f2:=D (k*8+2);have f3:=D (k*8+3);have f4:=D (k*8+4);have f5:=D (k*8+5);have f6:=D (k*8+6);have f7:=D (k*8+7);have xb:=Qh uo;have HBN:=Qh I;have iN:=Qh ZA;have Bh:=Qh Vq;have J:=Qh u;have U0:=Qh rH;have PQ:=Qh Pc;have qc:=Qh mM;have Z:=Qh oD;have kK:(k:Int)<(n:Int):=by omega
    clear oD cf mM dU hv jR u rH Pc uo I ZA Vq ZX bQ D;go_upto_region 9 with fail;clear nI c0 c1 c2 c3 c4 c5 c6 c7 c8;go_upto_region 10 with fail;obtain⟨W6,Ew⟩:∃W6,((((((((W5.setCell ⟨A.heap.size,k*8,none⟩ (.string (str v.m.path))).setCell ⟨A.heap.size,k*8+1,none⟩ (.string (str v.m.target))).setCell ⟨A.heap.size,k*8+2,none⟩ (.int .u8 kn)).setCell ⟨A.heap.size,k*8+3,none⟩ (.int .i64 v.m.mode)).setCell ⟨A.heap.size,k*8+4,none⟩ (.int .i64 v.m.uid)).setCell ⟨A.heap.size,k*8+5,none⟩ (.int .i64 v.m.gid)).setCell ⟨A.heap.size,k*8+6,none⟩ (.int .i64 v.m.time)).setCell ⟨A.heap.size,k*8+7,none⟩ (.slice none 0 0))=W6:=⟨_,rfl⟩
    obtain⟨mv,X4⟩:∃mv:av,(⟨v.m.path,v.m.target,v.m.kind,v.m.mode,v.m.uid,v.m.gid,v.m.time,[]⟩:av)=mv:=⟨_,rfl⟩
    have Yc:Oc W5 A.heap.size (k*8) ⟨mv,none,0⟩=W6:=by
     rw[←Ew,←X4,←fR.out];rfl
    have Pa:Rm W6 A.heap.size (ys.set k ⟨mv,none,0⟩):=by rw[←Yc];exact Bh.out.set Z.out ⟨mv,none,0⟩
    have Ny:Kept (aA A.heap.size) W5 W6:=by rw[←Yc];exact Ic (S:=aA A.heap.size) rfl _
    have QP:A.heap.size≠M:=by
     obtain⟨cur,hc,_⟩:=Bh.out;exact lH hc iN.out
    have ED:Kept (p7 A.heap.size (some M)) wr W6:=(Kept.aS xb.out _).trans (Ny.mono (fun b h=>.inl h));have VC:ao W6 wr.heap.size 52 v.cs:=HBN.out.bW Ny (fun e=>by have h1:=HGW.out;have N:wr.heap.size=A.heap.size:=e;omega);have O3:cF ik W6 M (fv (cu t os k)):=iN.out.kept Ny (fun e=>QP (show M=A.heap.size from e).symm);have U6:=Qh X4;have X:=Qh Pa;have MO:=Qh ED;have V8:=Qh VC;have nu:=Qh O3;have PF:=Qh QP;have y2:W6.cell? ⟨wr.heap.size,2,none⟩=some (.string (str v.m.af)):=VC.cell 2;have y3:W6.cell? ⟨wr.heap.size,3,none⟩=some (.int .u8 kn):=by rw[←fR.out];exact VC.cell 3
    rw[Ew];clear Ew Yc Pa Ny ED VC O3 QP X4 r0 r1 r2 r3 r4 r5 r6 r7 f0 f1 f2 f3 f4 f5 f6 f7 z0 z1 z3 z4 z5 z6 z7;have Zs:mv.body=[]:=by rw[←U6.out]
    have YT:=Qh Zs;clear Zs
    by_cases L:v.m.kind=48
    ·rw[decide_eq_true L,Bool.not_true]at ek
     have RD:Hid ((nodeAt t (os.getD k [])).kind=48):=Qh (by rw[J.out];exact L);have U:=nu.out.look_ok (P:=Tryz.prog) Tryz.underlying99 Tryz.underlying9 (z:=.int .i64 0) (fun w=>Tryz.zeroValue3 w) v.m.af;obtain⟨fo,uC⟩:∃fo,cu t os k v.m.af=fo:=⟨_,rfl⟩
     have xd:Hid (cu t os k (nodeAt t (os.getD k [])).af=fo):=Qh (by rw[J.out];exact uC);unfold fv at U;rw[uC]at U;clear L uC
     cases fo with
     |some f=>
      have Rg:(Instr.lookup 99 (.map (some M)) (.string (str v.m.af)) true).run Tryz.prog W6=.ok (.tuple #[.int .i64 (f:Int),.bool true]) W6:=U;have ZT:f<k:=zi xd.out;have Ub:m=n:=by rw[←HO.out.1,Mh.out]
      have TA:Below A.heap.size A W6:=G.out.bel.trans (MO.out.below G.out.bel.size (fun b hb=>by
       rcases hb with hb|hb
       ·rw[hb];exact Qk _
       ·injection hb with hb;rw[hb];exact H.out.2.2.1))
      obtain⟨b3,o3,rfl,o,zp⟩:=((HO.out.below bI.out).below TA).2 (by omega);have q0:=zp f (by omega);obtain⟨s,hs⟩:∃s,os.getD f []=s:=⟨_,rfl⟩
      rw[hs]at q0;have HS:=Qh hs;have Y:k<(ys.set k ⟨mv,none,0⟩).length:=by rw[List.length_set];exact Z.out
      obtain⟨r0,r1,r2,r3,r4,r5,r6,r7⟩:=X.out.jO Y
      have D:∀i,W6.frozen? ⟨A.heap.size,i,none⟩=false:=fun i=>by
       obtain⟨cur,hc,_⟩:=X.out;exact hc.frozen i
      have f1:=D (k*8+1);have f2:=D (k*8+2);have aa7:(0:Int)≤(f:Int):=by omega
      have aa8:(f:Int)<(m:Int):=by omega
      clear U ZT Ub TA o zp hs Y D r0 r3 r4 r5 r6 r7;go_upto_region 16 with fail;obtain⟨W7,I4⟩:∃W7,(W6.setCell ⟨A.heap.size,k*8+2,none⟩ (.int .u8 49)).setCell ⟨A.heap.size,k*8+1,none⟩ (.string (str s))=W7:=⟨_,rfl⟩
      have V:Rm W7 A.heap.size (ys.set k ⟨{mv with kind:=49,target:=s},none,0⟩):=by rw[←I4];exact Oh X.out Z.out s
      have O:Kept (aA A.heap.size) W6 W7:=by rw[←I4];exact((Kept.refl (aA A.heap.size) W6).setCell (a:=⟨A.heap.size,k*8+2,none⟩) (.inr rfl) _).setCell (a:=⟨A.heap.size,k*8+1,none⟩) (.inr rfl) _
      have W:Hid (yI w A w4 W7 M A.heap.size t os n (k+1) (ys.set k ⟨{mv with kind:=49,target:=s},none,0⟩)):=Qh
       (G.out.step R (MO.out.trans (O.mono (fun b h=>.inl h))) H.out V (by
        rw[Gz xd.out]
        exact nu.out.kept O (fun e=>PF.out (show M=A.heap.size from e).symm))
        (by rw[NV RD.out xd.out,J.out,HS.out,←U6.out];rfl) (JQ _ _ YT.out) (fun a h=>by cases h))
      rw[I4];clear I4 V O r1 r2 f1 f2;go_wp2;go_roundw
      case rel=>exact⟨k+1,_,by omega,by go_num,W⟩
      case measure=>simp[RowKit.intOf];omega
     |none=>
      have Rg:(Instr.lookup 99 (.map (some M)) (.string (str v.m.af)) true).run Tryz.prog W6=.ok (.tuple #[.int .i64 0,.bool false]) W6:=U;clear U
      go_wp2_with (at_mapUpdate;refine cQ (K:=ik) rfl (.tmp 68) (.tmp 70) (.tmp 71) rfl Tryz.underlying99 Tryz.underlying9 M nu.out rfl v.m.af rfl (.int .i64 (k:Int)) rfl ?_)
      intro w7 rJ O Q1
      have O4:cF ik w7 M (fv (cu t os (k+1))):=by
       have e:fv (cu t os (k+1))=fun z=>if z=v.m.af then some (.int .i64 (k:Int))else fv (cu t os k) z:=by
        funext z
        unfold fv;rw[Gy RD.out xd.out,J.out]
        by_cases h:z=v.m.af<;>simp[h]
       rw[e];exact rJ.out
      have QV:Kept (p7 A.heap.size (some M)) wr w7:=MO.out.trans (O.out.mono (fun b h=>.inr (by rw[show b=M from h])))
      have TB:Below A.heap.size A w7:=G.out.bel.trans (QV.below G.out.bel.size (fun b hb=>by
       rcases hb with hb|hb
       ·rw[hb];exact Qk _
       ·injection hb with hb;rw[hb];exact H.out.2.2.1))
      have r:ao w7 wr.heap.size 52 v.cs:=V8.out.bW O.out (fun e=>by have h1:=H.out.2.2.2;have N:wr.heap.size=M:=e;have T:=G.out.kp;omega)
      have V:Rm w7 A.heap.size (ys.set k ⟨mv,none,0⟩):=by
       obtain⟨cur,hc,N,T⟩:=X.out;exact⟨cur,hc.bW O.out PF.out,N,T⟩
      have OZ:=j6 v.p v.m.body.length v.c v.m.body w7 ((HXB.out.below bI.out).below TB).gZ rfl PQ.out.2.2.2;have y8:w7.cell? ⟨wr.heap.size,8,none⟩=some (.slice v.p v.m.body.length v.c):=r.cell 8;have SD:=Qh O4;have SC:=Qh QV;have Jp:=Qh V;have MI:=Qh OZ;clear rJ O Q1 O4 QV TB r V OZ y2 y3 Rg;go_wp2_with fail;refine MI.out.mono ?_;rintro e w8 ⟨q8,d8,rfl,hle,Kv,pH,Cy,Vx⟩;have VH:=tR Jp.out Vx;have Y:k<(ys.set k ⟨mv,none,0⟩).length:=by rw[List.length_set];exact Z.out
      obtain⟨r0,r1,r2,r3,r4,r5,r6,r7⟩:=VH.jO Y
      have f7:w8.frozen? ⟨A.heap.size,k*8+7,none⟩=false:=by
       obtain⟨cur,hc,_⟩:=VH;exact hc.frozen _
      have Yn:=SC.out.size
      have Ye:∀x,q8=some x→w4.heap.size≤x.block:=fun x hx=>by
       have h1:=Cy x hx;have N:=G.out.kp;omega
      have W:Hid (yI w A w4 (w8.setCell ⟨A.heap.size,k*8+7,none⟩ (.slice q8 v.m.body.length d8)) M A.heap.size t os n (k+1) (ys.set k ⟨{mv with body:=v.m.body},q8,d8⟩)):=by
       have ng:Kept (aA A.heap.size) w8 (w8.setCell ⟨A.heap.size,k*8+7,none⟩ (.slice q8 v.m.body.length d8)):=(Kept.refl (aA A.heap.size) w8).setCell (a:=⟨A.heap.size,k*8+7,none⟩) (.inr rfl) _
       refine Qh (G.out.step R ((SC.out.trans (Kept.aS Vx _)).trans (ng.mono (fun b h=>.inl h))) H.out (LF VH Z.out v.m.body q8 d8)
        ((SD.out.kept (Kept.aS Vx ag) (fun h=>h.elim)).kept ng (fun e=>PF.out (show M=A.heap.size from e).symm))
        (by rw[NU RD.out xd.out,J.out,←U6.out];rfl) ⟨pH.kept ng (fun _ x hx e=>?_),hle,Kv⟩ Ye)
       have h1:=Ye x hx;have N:=H.out.2.1;have T:x.block=A.heap.size:=e;omega
      clear hle Kv pH Cy Vx VH Y Yn Ye r0 r1 r2 r3 r4 r5 r6;go_wp2;go_roundw
      case rel=>exact⟨k+1,_,by omega,by go_num,W⟩
      case measure=>simp[RowKit.intOf];omega
    ·rw[decide_eq_false L,Bool.not_false]at ek
     have W:Hid (yI w A w4 W6 M A.heap.size t os n (k+1) (ys.set k ⟨mv,none,0⟩)):=Qh
      (G.out.step R MO.out H.out X.out (by rw[zj (by rw[J.out];exact L)];exact nu.out)
       (by
        rw[Ho (by rw[J.out];exact L),J.out,←U6.out];unfold aw.mem
        rw[BT U0.out.2.1 L]) (JQ _ _ YT.out) (fun a h=>by cases h))
     clear L;go_wp2;go_roundw
     case rel=>exact⟨k+1,_,by omega,by go_num,W⟩
     case measure=>simp[RowKit.intOf];omega
   ·obtain rfl:k=n:=by omega
    have ng:¬((k:Int)<(k:Int)):=by omega
    have F:Hid (nZ w (dY t os,0) (.returned (.tuple #[.slice (some ⟨A.heap.size,0,none⟩) k k,.int .i64 0])) wr):=Qh (by
     have hl:(dY t os).length=k:=by rw[nL PN.out,Mh.out]
     have hm:ys.map MP.m=dY t os:=by
      apply List.ext_getElem
      ·rw[Qi,G.out.len,hl]
      ·intro i h1 N
       rw[Qi]at h1;have T:=G.out.done i (by rw[←G.out.len];exact h1);have h4:=jf PN.out (show i<os.length by rw[Mh.out,←G.out.len];exact h1);rw[Np h1]at T;rw[List.getElem_map,T,←h4,List.getD,Qd N];rfl
     have Cx:=G.out.row.Yu (fun y hy=>(G.out.yX y hy).1);rw[G.out.len]at Cx
     refine⟨some ⟨A.heap.size,0,none⟩,k,ys,by rw[hl],hm,by rw[hl];exact Cx,by rw[hl];exact Qk _,by unfold maxLen;omega,bI.out.trans (G.out.bel.mono bI.out.size)⟩)
    have E:Hid (Rh t os=(dY t os,0)):=Qh (K3 HG.out PN.out);go_wp2;go_ret2;rw[E.out];exact F.out
 ·have E:Hid (Rh t os=([],1)):=Qh (Uz HG.out uF)
  have HB:=Qh g;clear uF g;go_wp2;go_ret2;unfold nZ;rw[E.out];exact⟨none,0,[],rfl,rfl,tv _ _,Qk _,by decide,HB.out⟩
end oa
namespace Tre
open Mk Mem
def rU (w:World) (ms:List av) (e:Ending) (w':World):Prop:=
 ∃q d zs,e=.returned (.tuple #[.slice q (gQ ms).1.length d,.agg #[.int .i64 (gQ ms).2.1,.int .i64 ((gQ ms).2.2:Int)]])∧zs.map NP.m=(gQ ms).1∧aY w' q (gQ ms).1.length zs∧(gQ ms).1.length≤d∧d≤maxLen∧Below w.heap.size w w'∧(∀x,q=some x→w.heap.size≤x.block)∧(∀y∈zs,∀x,y.p=some x→w.heap.size≤x.block)
theorem vC {ms:List av} {e i:Int} {k:Nat} (h:gQ ms=([],e,k)) (hb:Below w.heap.size w w') (hi:i=(k:Int)):rU w ms (.returned (.tuple #[.slice none 0 0,.agg #[.int .i64 e,.int .i64 i]])) w':=
 ⟨none,0,[],by rw[h,hi];rfl,by rw[h];rfl,by rw[h];exact pP _ _,by rw[h];exact Qk _,by decide,hb,(fun x A=>by cases A),(fun y hy=>by cases hy)⟩
theorem IJ (p:Option Addr) (n c:Nat) (xs:List MP) (w:World) (hM:dr w p n xs) (hn:n≤1000000) (hF:Oz xs) (hR:∀x∈xs,x.m.body.length≤140737488351232) (hT:Path.Tabs w):
 Calls Tryz.prog 26 #[.slice p n c] w (rU w (xs.map MP.m)):=by
 obtain⟨W,hW⟩:∃W,w.alloc (.cells #[.int .i64 0,.int .i64 0] 32)=W:=⟨_,rfl⟩
 have f:Below w.heap.size w W:=by rw[←hW];exact(Below.refl _ _).alloc (Qk _) _
 have Tu:ao W w.heap.size 32 #[.int .i64 0,.int .i64 0]:=by rw[←hW];exact ao.new w _ _
 have V0:=Qh (pI p n c xs W (hM.below f) (by omega) hF (hT.below f));have HM:=Qh hM;have J:=Qh hM.1;have HF:=Qh hF;have HR:=Qh hR;have im:=Qh f;have nU:=Qh Tu;obtain⟨bo,Xr⟩:∃bo,jw (xs.map MP.m)=bo:=⟨_,rfl⟩
 rw[Xr]at V0;have VT:=Qh Xr;clear hM hF hR hT f Tu Xr
 go_enter Tryz.func26,Tryz.ntmps26
 go_upto_region 1 with fail
 clear hW;go_wp2_with fail;refine V0.out.mono ?_;rintro e w1 ⟨rfl,cf⟩;have b8:=Qh (im.out.trans (cf.mono im.out.size));have H:=nU.out.below cf nU.out.lt;have Y:=Qh H;have x0:=H.cell 0;have G:=H.cell 1;have f0:=H.frozen 0;have f1:=H.frozen 1;simp only[Qc,Qa,Qb]at x0 G;clear cf H V0
 cases bo with
 |some i=>
  have Mu:(0:Int)≤(i:Int):=by omega
  simp only[Rc];go_wp2;refine bodyPost_ret (tQ rfl _ _ w.heap.size _ rfl rfl 1 (i:Int) (om Y.out _ _)) rfl ?_;exact vC (GG VT.out) ((b8.out.setCell (p:=⟨w.heap.size,0,none⟩) (Qk _) _).setCell (p:=⟨w.heap.size,1,none⟩) (Qk _) _) rfl
 |none=>
  simp only[Rc];clear x0 G f0 f1;have SG:=Qh (Dc p n c w1);go_wp2_with fail;refine SG.out.mono ?_;rintro e w2 ⟨g,B,rfl,hL,hg,hB,bZ⟩;have bI:=Qh (b8.out.trans (bZ.mono b8.out.size));have fz:=Qh (Y.out.below bZ Y.out.lt);have RH:=Qh (And.intro hg hB);have D8:=Qh hL;have z:Hid (w.heap.size<w1.heap.size):=Qh Y.out.lt;clear hL hg hB bZ SG;go_wp2_with fail
  go_loopw [6,17] (fun _ i wr=>∃(k:Nat) (S:St),k≤n∧i=.int .i64 (k:Int)∧Hid (eF (xs.map MP.m) k=.ok S)∧Hid (ly wr g B p n c (look S))∧Hid (Below w.heap.size w wr)∧Hid (ao wr w.heap.size 32 #[.int .i64 0,.int .i64 0])) (fun _ i _=>n - (RowKit.intOf i).toNat)
  case atStart=>exact⟨0,[],Nat.zero_le _,rfl,Qh rfl,Qh D8.out,bI,fz⟩
  case round=>
   obtain⟨k,S,hk,rfl,hS,Zy,D,T⟩:=hrel
   by_cases ax:k<n
   ·have kJ:k<(xs.map MP.m).length:=by rw[Qi,J.out];exact ax
    have hIn:=tc (xs.map MP.m) k S (by omega) hS.out;rw[Qi,J.out]at hIn;have O:=Qh (xQ w g B p n c xs S k wr HM.out D.out (by have:=RH.out.2;have:=z.out;omega) (by omega) ax hIn Zy.out);have kK:(k:Int)<(n:Int):=by omega
    have fR:Hid ((xs.map MP.m).length=k+1+(n - (k+1))):=Qh (by rw[Qi,J.out];omega);unfold Ed at O;obtain⟨lo,u⟩:∃lo,jS (xs.map MP.m) S k=lo:=⟨_,rfl⟩
    rw[u]at O;have Mf:=Qh u;clear kJ hIn u;go_wp2_with fail;refine O.out.mono ?_;rintro e w3 ⟨rfl,Zx,dw⟩;have cV:w.heap.size≠B:=by have:=RH.out.2;have:=z.out;omega
    have OQ:Below w.heap.size w w3:=D.out.trans (dw.below D.out.size (fun b V=>by rw[show b=B from V];have:=RH.out.2;have:=z.out;omega));have A:=T.out.bW dw (show ¬aA B w.heap.size from cV);have U:=Qh OQ;have Z:=Qh A;have r:=Qh Zx;have x0:=A.cell 0;have G:=A.cell 1;have f0:=A.frozen 0;have f1:=A.frozen 1;simp only[Qc,Qa,Qb]at x0 G;clear Zx dw cV OQ A O
    cases lo with
    |none=>
     have E:=Qh (Cg VT.out (by rw[fR.out];exact td (CP hS.out Mf.out) _));go_wp2;refine bodyPost_ret (tQ rfl _ _ w.heap.size _ rfl rfl 7 (k:Int) (om Z.out _ _)) rfl ?_;exact vC E.out ((U.out.setCell (p:=⟨w.heap.size,0,none⟩) (Qk _) _).setCell (p:=⟨w.heap.size,1,none⟩) (Qk _) _) rfl
    |some S'=>
     have PR:=Qh (tf hS.out Mf.out);clear x0 G f0 f1;go_wp2;go_roundw
     case rel=>exact⟨k+1,S',by omega,by go_num,PR,r,U,Z⟩
     case measure=>simp[RowKit.intOf];omega
   ·have ng:¬((k:Int)<(n:Int)):=by omega
    have bQ:k=n:=by omega
    have l:(xs.map MP.m).length=n:=by rw[Qi,J.out]
    have Xf:eF (xs.map MP.m) (xs.map MP.m).length=.ok S:=by rw[l,←bQ];exact hS.out
    have xE:=zJ _ _ _ hS.out;have E:=Qh (zl VT.out Xf)
    have t:=Qh (L1 g B p n c xs S wr (HM.out.below D.out) (by omega) Zy.out (qD _ _ _ hS.out) (by have:=tc _ _ S (Qk _) Xf;rwa [l]at this) (Nat.le_trans xE.len (by omega)) (fun e he=>by
     obtain⟨j,hj,e2⟩:=xE.from_ e he;rw[e2,iZ];have:=(HF.out _ (lL xs j (by rw[J.out];omega))).1;unfold maxLen
     omega) HR.out)
    clear bQ l Xf xE;go_wp2_with fail;refine t.out.mono ?_;rintro e w3 ⟨q,d,zs,rfl,X,I,hd,N,fr,L,hy⟩;have U:=Qh (D.out.trans (fr.mono D.out.size));have A:=T.out.below fr T.out.lt;have Z:=Qh A;have fZ:=Qh (And.intro D.out.size T.out.lt);have P:=Qh (And.intro X (And.intro I (And.intro hd (And.intro N (And.intro L hy)))));have x0:=A.cell 0;have G:=A.cell 1;have f0:=A.frozen 0;have f1:=A.frozen 1;simp only[Qc,Qa,Qb]at x0 G;clear X I hd N fr L hy A;go_wp2;refine bodyPost_ret (tQ rfl _ _ w.heap.size _ rfl rfl 0 0 (om Z.out _ _)) rfl ?_;have hbf:=(U.out.setCell (p:=⟨w.heap.size,0,none⟩) (Qk _) (.int .i64 0)).setCell (p:=⟨w.heap.size,1,none⟩) (Qk _) (.int .i64 0);have XU:Kept (aA w.heap.size) w3 ((w3.setCell ⟨w.heap.size,0,none⟩ (.int .i64 0)).setCell ⟨w.heap.size,1,none⟩ (.int .i64 0)):=((Kept.refl (aA w.heap.size) w3).setCell (a:=⟨w.heap.size,0,none⟩) (.inr rfl) _).setCell (a:=⟨w.heap.size,1,none⟩) (.inr rfl) _;obtain⟨X,I,hd,N,L,hy⟩:=P.out;obtain⟨oG,vL⟩:=fZ.out;refine⟨q,d,zs,by rw[E.out];rfl,by rw[E.out];exact X,?_,by rw[E.out];exact hd,N,hbf,fun x M=>Nat.le_trans oG (L x M),fun y R x M=>Nat.le_trans oG (hy y R x M)⟩;rw[E.out];refine⟨I.1,fun y R=>(I.2.1 y R).kept XU (fun _ x M h=>by have h1:=hy y R x M;have h2:x.block=w.heap.size:=h;omega),fun h0=>?_⟩;obtain⟨b,o,V,iE,hc⟩:=I.2.2 h0;refine⟨b,o,V,Nat.lt_of_lt_of_le iE XU.size,fun i hi j hj=>?_⟩;rw[World.cell?_of_block (XU.block b iE (fun h=>by have h1:=L _ V;have h2:b=w.heap.size:=h;simp only at h1;omega))];exact hc i hi j hj
end Tre
namespace D3
open Rec Mem Tre oa Wr
attribute [local irreducible] wpQuiet
theorem Oj {g:Nat} (h:w'.ownsRow B 9 1 (.slice (some ⟨g,0,none⟩) n n) n (madeCells #[.string ⟨#[]⟩] n).toList):Rs w' g (List.replicate n []):=by
 rcases h.2 with⟨h1,_⟩|⟨g',cap,cur,h1,_,hg,h2,h3,h4,h5⟩
 ·cases h1
 ·cases h1
  refine⟨cur,hg,by rw[List.length_replicate];omega,fun i hi=>?_⟩;rw[List.length_replicate]at hi
  have A:cur.toList[i]? =(madeCells #[Value.string ⟨#[]⟩] n).toList[i]? :=by
   rw[←h5,List.getElem?_take,if_pos (by omega)]
  rw[←Array.getElem?_toList,A,toList_madeCells_one,List.getElem?_replicate,if_pos (by omega),List.getD,List.getElem?_replicate,if_pos hi];rfl
theorem Fk {fn:Func} (hf:fn.results=#[.tmp 4,.cell 5 32]) (tmps:Array Value) (w:World) (g:Nat) (v:Value) (ht:tmps.getD 5 undef=.pointer (some ⟨g,0,none⟩)) (hv:tmps.getD 4 undef=v)
 (a b:Int) (hb:ao w g 32 #[.int .i64 a,.int .i64 b]):(results fn tmps).run Tryz.prog w=.ok (.tuple #[v,.agg #[.int .i64 a,.int .i64 b]]) w:=by
 have c0:=hb.cell 0;have c1:=hb.cell 1;simp only[Qc,Qa,Qb]at c0 c1;clear hb;have hl:(loadVar 32 ⟨g,0,none⟩).run Tryz.prog w=.ok (.agg #[.int .i64 a,.int .i64 b]) w:=by go_simp
 have B:tmps[5]?.getD undef=.pointer (some ⟨g,0,none⟩):=by simpa using ht
 have A:tmps[4]?.getD undef=v:=by simpa using hv
 simp only[results,hf];simp[Result.andThen,B,A,asAddr,hl]
theorem Ca (w:World) (p:Option Addr) (n c:Nat) (xs:List NP) (hM:aY w p n xs) (hn:n≤4096):
 Calls Tryz.prog 22 #[.slice p n c] w fun e w'=>∃g,e=.returned (.slice (some ⟨g,0,none⟩) n n)∧Rs w' g (dK (xs.map NP.m))∧Below w.heap.size w w':=by
 obtain⟨i0,hi,l,d,f⟩:=info_parts NL;have HI:=Qh hi;have lr:=Qh l;have jZ:=Qh d;have lu:=Qh f;have HM:=Qh hM;have M:=Qh hM.1;clear hi l d f hM
 go_enter Tryz.func22,Tryz.ntmps22
 go_wp2_with (at_make;refine wpList_make_full _ rfl _ _ 55 rfl w.heap.size 9 i0 _ 1 Tryz.underlying55 HI.out lr.out jZ.out .i64 .i64 _ _ n rfl rfl rfl rfl (by rw[lu.out];omega) (by unfold maxLen;omega) (Qk _) ?_)
 intro w2 r Z;have E:=Oj (B:=w.heap.size) r;have b:Kept ag w w2:=(Kept.refl ag w).grown Z (fun k h=>by cases h);have Y:Below w.heap.size w w2:=b.below (Qk _) (fun _ h=>h.elim);have X:=Qh Y;have z:=Qh E;obtain⟨gg,R⟩:∃gg,w.heap.size=gg:=⟨_,rfl⟩
 have T:=Qh R;rw[R]at z X⊢;clear r Z E b Y R;go_wp2_with fail
 go_loopw [4,5,11] (fun _ _ i wr=>∃(k:Nat) (A:List (List UInt8)),k≤n∧i=.int .i64 (k:Int)∧Hid (A.length=n)∧Hid (∀j,j<k→A.getD j []=(xs.getD j aG).m.path)∧Hid (Rs wr gg A)∧Hid (Below gg w wr)) (fun _ _ i _=>n - (RowKit.intOf i).toNat)
 case atStart=>exact⟨0,_,Nat.zero_le _,rfl,Qh (by simp),Qh (fun j h=>by omega),z,X⟩
 case round=>
  obtain⟨k,A,hk,rfl,G,D,E,H⟩:=hrel
  by_cases W:k<n
  ·obtain⟨b1,o1,rfl,cf,mM,hc⟩:=(HM.out.below (by rw[T.out];exact H.out)).dD W
   obtain⟨y,hy⟩:∃y,xs.getD k aG=y:=⟨_,rfl⟩
   rw[hy]at hc;have HY:=Qh hy;obtain⟨c0,c1,c2,c3,c4,c5,c6,c7,c8⟩:=hc;obtain⟨W5,J⟩:∃W5,wr.alloc (.cells y.cs 52)=W5:=⟨_,rfl⟩
   have V:Below wr.heap.size wr W5:=by rw[←J];exact(Below.refl _ _).alloc (Qk _) _
   have u:ao W5 wr.heap.size 52 y.cs:=by rw[←J];exact ao.new wr _ _
   have N:=LK E.out V;have I:k<A.length:=by rw[G.out];exact W
   obtain⟨r0,f0⟩:=N.at I;have z0:=u.cell 0;unfold NP.cs fT at J;simp only[NP.cs,fT,Qc,Qa]at z0;have V7:Hid (Rs (W5.setCell ⟨gg,k,none⟩ (.string (str y.m.path))) gg (A.set k y.m.path)):=Qh (N.set I y.m.path);have xb:Hid (Below gg w (W5.setCell ⟨gg,k,none⟩ (.string (str y.m.path)))):=Qh ((H.out.trans (V.mono (by rw[←T.out];exact H.out.size))).setCell (p:=⟨gg,k,none⟩) (Qk _) _)
   have L:Hid (∀j,j<k+1→(A.set k y.m.path).getD j []=(xs.getD j aG).m.path):=Qh (fun j hj=>by
    rw[Et A k j _ I]
    by_cases O:j=k
    ·rw[if_pos O,O,HY.out]
    ·rw[if_neg O];exact D.out j (by omega))
   have kK:(k:Int)<(n:Int):=by omega
   clear hy cf mM V u N I;go_upto_region 5 with fail;clear J c0 c1 c2 c3 c4 c5 c6 c7 c8;go_wp2;go_roundw
   case rel=>exact⟨k+1,_,by omega,by go_num,Qh (by rw[List.length_set];exact G.out),L,V7,xb⟩
   case measure=>simp[RowKit.intOf];omega
  ·obtain rfl:k=n:=by omega
   have ng:¬((k:Int)<(k:Int)):=by omega
   have sR:A=dK (xs.map NP.m):=by
    apply List.ext_getElem
    ·rw[G.out,jj,Qi,M.out]
    ·intro i h1 h2
     have U:i<k:=by rw[←G.out];exact h1
     have o:=D.out i U;have q:=tH (t:=xs.map NP.m) (i:=i) (by rw[Qi,M.out];exact U);rw[List.getD,Qd h1,Option.getD_some]at o;rw[List.getD,Qd h2,Option.getD_some]at q;rw[o,q,List.getElem_map,rF (by rw[M.out];exact U)]
   go_wp2;go_ret;exact⟨gg,rfl,by rw[←sR];exact E.out,by rw[T.out];exact H.out⟩
theorem Gq (w:World) (p:Option Addr) (n c:Nat) (xs:List NP) (hR:sb w p n c xs) (hN:Need w):
 Calls Tryz.prog 10 #[.slice p n c] w (lz w (xs.map NP.m)):=by
 have R:=Qh hR.at_;have O:=Qh hR.at_.1;have HC:=Qh (And.intro hR.nc hR.cm);have W:=Qh hR.room;have z:=Qh hN;have M:=IK p n c xs w hR.at_ hR.nc hR.cm (fun x B=>⟨(hR.room x B).1,(hR.room x B).2.1⟩) hN.yr;obtain⟨g,I⟩:∃g,bD (xs.map NP.m)=g:=⟨_,rfl⟩
 rw[I]at M;have A:=Qh I;have Y:=Qh M;clear hR hN M I
 go_enter Tryz.func10,Tryz.ntmps10
 go_wp2_with fail
 refine Y.out.mono ?_;rintro e w1 ⟨rfl,d⟩;have E:=Qh d;clear d Y
 cases g with
 |false=>
  go_wp2;go_ret2;exact .inr ⟨A.out,none,0,rfl,E.out⟩
 |true=>
  have hn:n≤4096:=by
   have:=J8 A.out
   rwa [Qi,O.out]at this
  have o:=Ca w1 p n c xs (R.out.below E.out) hn;have T:=Qh o;clear o;go_wp2_with fail;refine T.out.mono ?_;rintro e w2 ⟨gg,rfl,q,b⟩;have Z:=Qh (E.out.trans (b.mono E.out.size));have J:=q.strs;rw[jj,Qi,O.out]at J
  have hm:=xY w2 p n c xs (some ⟨gg,0,none⟩) n n (dK (xs.map NP.m)) ⟨R.out.below Z.out,HC.out.1,HC.out.2,by omega,W.out,A.out⟩ ⟨J,Qk _,by unfold maxLen;omega,by omega,fun s hs=>by
   obtain⟨x,B,rfl⟩:=List.mem_map.1 hs;obtain⟨y,hy,rfl⟩:=List.mem_map.1 B
   exact(W.out y hy).1⟩
  rw[K3 A.out (fx _)]at hm;unfold nZ at hm;have X:=Qh hm;have l:=Z;clear hm J q b T;go_wp2_with fail;refine X.out.mono ?_;rintro e w4 ⟨q4,d4,ys,rfl,H,D,XE,QJ,f⟩;have L:=Qh (l.out.trans (f.mono l.out.size));have U:(dY (xs.map NP.m) (dK (xs.map NP.m))).length≤4096:=kO A.out;have G:=IU q4 (dY (xs.map NP.m) (dK (xs.map NP.m))).length d4 ys w4 D U (fun x B=>jU A.out x.m (by unfold eY;rw[←H];exact List.mem_map_of_mem B)) (z.out.below L.out);rw[H]at G;unfold vd at G;have N:=Qh G;clear H D XE QJ f U G X;go_wp2_with fail;refine N.out.mono ?_;rintro e w5 ⟨v,rfl,u,t⟩;obtain⟨p5,c5,rfl,hle,V,r,_,_⟩:=u.slice;have F:=Qh (And.intro hle (And.intro V (And.intro r (L.out.trans (t.mono L.out.size)))));clear u hle V r t N;go_wp2;go_ret2;exact .inl ⟨A.out,p5,c5,rfl,F.out.1,F.out.2.1,F.out.2.2.1,F.out.2.2.2⟩
theorem yd {bs:List UInt8}:∀m∈(cK bs).1,m.path.length≤200∧m.target.length≤200∧m.body.length≤1048576:=fun m hm=>by
 obtain⟨⟨ms,e,a⟩,h⟩:∃x,cK bs=x:=⟨_,rfl⟩
 rw[h]at hm;rcases tu h with⟨_,h2,_⟩|⟨_,_,h2⟩
 ·simp only[h2]at hm;cases hm
 ·have A:=eE (h2 m hm)
  exact⟨A.wC,A.AK,A.body⟩
theorem JY (w:World) (p:Option Addr) (n c:Nat) (bs:List UInt8) (q:Option Addr) (m d:Nat) (zs:List Int) (hb:cB w p n bs) (hl:bs.length=n) (hn:n≤140737488351232) (hq:Fx w q m zs) (hz:zs.length=m) (hm:m*8≤140737488351232) (hN:Need w):
 Calls Tryz.prog 13 #[.slice p n c,.slice q m d] w (xh w bs):=by
 obtain⟨W,hW⟩:∃W,w.alloc (.cells #[.int .i64 0,.int .i64 0] 32)=W:=⟨_,rfl⟩
 have M:Below w.heap.size w W:=by rw[←hW];exact(Below.refl _ _).alloc (Qk _) _
 have Tu:ao W w.heap.size 32 #[.int .i64 0,.int .i64 0]:=by rw[←hW];exact ao.new w _ _
 have J:=zV W p n c bs q m d zs (hb.below M) hl hn (hq.kept (Kept.aS M ag) (fun _ _ _ h=>h.elim)) hz hm (hN.below M);unfold OJ at J;have Z:=Qh (yd (bs:=bs));have MR:=Qh (uM bs);obtain⟨⟨ms,A,a⟩,y⟩:∃x,cK bs=x:=⟨_,rfl⟩
 have Zf:Hid ((A≠0→jJ bs=([],A,a))∧(A=0→jJ bs=gQ ms)):=Qh (by
  unfold jJ;rw[y]
  exact⟨fun h=>if_neg h,fun h=>if_pos h⟩)
 rw[y]at J Z MR;obtain⟨r,l⟩:∃z:Int,((a:Nat):Int)=z:=⟨_,rfl⟩
 rw[l]at J;have Y:=Qh l;have HR:=Qh J;have HN:=Qh hN;have im:=Qh M;have nU:=Qh Tu;clear hb hl hn hq hz hm hN M Tu J y l
 go_enter Tryz.func13,Tryz.ntmps13
 go_upto_region 1 with fail
 clear hW;go_wp2_with fail;refine HR.out.mono ?_;rintro e N ⟨q1,c1,xs,rfl,gR,TH,KK,L,t⟩;obtain⟨w2,O⟩:∃w2,N.alloc (.cells #[.int .i64 A,.int .i64 r] 32)=w2:=⟨_,rfl⟩
 have g:Below N.heap.size N w2:=by rw[←O];exact(Below.refl _ _).alloc (Qk _) _
 have X:ao w2 N.heap.size 32 #[.int .i64 A,.int .i64 r]:=by rw[←O];exact ao.new N _ _
 have b:=t.trans (g.mono t.size);have R:=Qh (im.out.trans (b.mono im.out.size));have I:=Qh (And.intro KK (And.intro (L.below g) (And.intro gR TH)));have G:=nU.out.below b nU.out.lt;have po:=Qh G;have e0:=X.cell 0;have e1:=X.cell 1;have U:=G.cell 0;have V:=G.cell 1;have f0:=G.frozen 0;have f1:=G.frozen 1;simp only[Qc,Qa,Qb]at e0 e1 U V;clear gR TH KK L t g X b G HR
 by_cases he:A=0
 ·have H:=Qh (Zf.out.2 he)
  subst he;go_upto_region 2 with fail;clear O;clear e1 U V f0 f1
  have hf:=IJ q1 xs.length c1 xs w2 I.out.2.1 (by have:=MR.out;rw[←Qi (f:=MP.m),I.out.1];omega) (fun x hx=>by
   have:=Z.out x.m (by rw[←I.out.1];exact List.mem_map_of_mem hx)
   exact⟨by omega,by omega⟩) (fun x hx=>by
   have:=Z.out x.m (by rw[←I.out.1];exact List.mem_map_of_mem hx)
   omega) (HN.out.below R.out).yr
  unfold rU at hf;rw[I.out.1]at hf;obtain⟨⟨T,E,k⟩,hT⟩:∃x,gQ ms=x:=⟨_,rfl⟩
  rw[hT]at hf;have HT:=Qh hT;obtain⟨kz,oD⟩:∃z:Int,((k:Nat):Int)=z:=⟨_,rfl⟩
  rw[oD]at hf;have PI:=Qh oD;have HF:=Qh hf;clear hf hT oD;go_wp2_with fail;refine HF.out.mono ?_;rintro e w3 ⟨q3,d3,us,rfl,o,lj,ZP,TL,u,_,_⟩;have Sn:us.length=T.length:=by rw[←o,Qi]
  have ff:=Qh (R.out.trans (u.mono R.out.size));have D:=po.out.below u po.out.lt;have U8:=Qh D;have B:=Qh (And.intro o (And.intro lj (And.intro ZP (And.intro TL Sn))));have U:=D.cell 0;have V:=D.cell 1;have f0:=D.frozen 0;have f1:=D.frozen 1;simp only[Qc,Qa,Qb]at U V;clear o lj ZP TL u D e0 HF Sn;go_wp2;refine bodyPost_ret (Fk rfl _ _ w.heap.size _ rfl rfl E kz (om U8.out _ _)) rfl ?_;refine⟨q3,d3,us,by rw[H.out,HT.out,B.out.2.2.2.2,←PI.out];rfl,by rw[H.out,HT.out];exact B.out.1,?_,by rw[B.out.2.2.2.2];exact B.out.2.2.1,B.out.2.2.2.1,(ff.out.setCell (p:=⟨w.heap.size,0,none⟩) (Qk _) _).setCell (p:=⟨w.heap.size,1,none⟩) (Qk _) _⟩;have hk:Kept (aA w.heap.size) w3 ((w3.setCell ⟨w.heap.size,0,none⟩ (.int .i64 E)).setCell ⟨w.heap.size,1,none⟩ (.int .i64 kz)):=((Kept.refl (aA w.heap.size) w3).setCell (a:=⟨w.heap.size,0,none⟩) (.inr rfl) _).setCell (a:=⟨w.heap.size,1,none⟩) (.inr rfl) _;have hn:=B.out.2.1;rw[←B.out.2.2.2.2]at hn;exact Ht U8.out hn hk
 ·have H:=Qh (Zf.out.1 he)
  have cV:(A != 0)=true:=by simpa using he
  clear he;go_upto_region 3 with fail;clear O
  go_still_tail 2,(by kernel_rfl)
  go_wp2;refine bodyPost_ret (Fk rfl _ _ w.heap.size _ rfl rfl A r (om (po.out.drew) _ _)) rfl ?_;refine⟨none,0,[],by rw[H.out,←Y.out];rfl,by rw[H.out];rfl,pP _ _,Qk _,by unfold maxLen;omega,((below_drewN R.out 1).setCell (p:=⟨w.heap.size,0,none⟩) (Qk _) _).setCell (p:=⟨w.heap.size,1,none⟩) (Qk _) _⟩
theorem Gs (w:World) (p:Option Addr) (n c:Nat) (xs:List MP) (hM:vg w p n c xs):
 Calls Tryz.prog 19 #[.slice p n c] w fun e w'=>e=.returned (.bool (kU (xs.map MP.m)))∧Below w.heap.size w w':=by
 have R:=Qh hM.at_;have I:=Qh hM.at_.1;obtain⟨r,O⟩:∃r,kU (xs.map MP.m)=r:=⟨_,rfl⟩
 have T:=Qh O;have u:=hM.few;rw[O];clear hM O
 go_enter Tryz.func19,Tryz.ntmps19
 go_wp2_with fail
 go_loopw [3] (fun i wr=>∃(k:Nat),1≤k∧(k≤n∨k=1)∧i=.int .i64 (k:Int)∧Hid (qP (xs.map MP.m) k=true)∧Hid (Below w.heap.size w wr)) (fun i _=>n+1 - (RowKit.intOf i).toNat)
 case atStart=>exact⟨1,Qk _,.inr rfl,rfl,Qh (Iq _),Qh (Below.refl _ _)⟩
 case round=>
  obtain⟨k,dR,hk,rfl,X,A⟩:=hrel
  by_cases V:k<n
  ·obtain⟨b,o,rfl,f,l,hc⟩:=(R.out.below A.out).jO V
   obtain⟨z,o',he,_,_,G⟩:=(R.out.below A.out).jO (show k - 1<n by omega)
   cases he
   have N:=iZ xs k;have H:=iZ xs (k - 1);obtain⟨x,Y⟩:∃x,xs.getD k bP=x:=⟨_,rfl⟩
   obtain⟨y,hy⟩:∃y,xs.getD (k - 1) bP=y:=⟨_,rfl⟩
   rw[Y]at hc N;rw[hy]at G H;obtain⟨m,hm⟩:∃m,k - 1=m:=⟨_,rfl⟩
   rw[hm]at G H;have hS:=DG (xs.map MP.m) k (by omega);rw[X.out,Bool.true_and,hm,N,H]at hS;have J:Hid (∀p:fW wr,Calls Tryz.prog 45 #[.string (str y.m.path),.string (str x.m.path)] p.w' fun e w'=>e=.returned (.bool (dI y.m.path x.m.path))∧p.w'=w'):=Qh (fun p=>Path.oL y.m.path x.m.path p.w');obtain⟨L,W⟩:∃L,dI y.m.path x.m.path=L:=⟨_,rfl⟩
   rw[W]at J hS;have U:=Qh hS;have Z:=tU hc.1;have d:=tU G.1;have q1:IntKind.i64.wrap ((k:Int) - 1)=(m:Int):=by rw[IntKind.wrap_i64];omega
   have kK:(k:Int)<(n:Int):=by omega
   have g:(m:Int)<(n:Int):=by omega
   have q:Hid (k<(xs.map MP.m).length):=Qh (by rw[Qi,I.out];exact V);clear hc G f l N H Y hy W hm hS
   cases L with
   |true=>
    go_upto_region 4 with fail
    refine aK (by kernel_rfl) (by kernel_rfl) ?_
    repeat (quiet_step (first|(go_at_call 45;exact Calls.kV (J.out _))))
    refine wpQuiet_nil ?_;intro t B;have D:=cb B;clear B Z d;have M:=Qh (A.out.trans (D.mono A.out.size));clear D;go_wp2;go_roundw
    case rel=>exact⟨k+1,by omega,by omega,by go_num,U,M⟩
    case measure=>simp[RowKit.intOf];omega
   |false=>
    have E:Hid (r=false):=Qh (by
     rw[←T.out]
     cases h:kU (xs.map MP.m)with
     |false=>rfl
     |true=>
      have h1:=LD h (k+1) (by have:=q.out;omega);rw[U.out]at h1
      cases h1)
    go_upto_region 4 with fail
    refine aK (by kernel_rfl) (by kernel_rfl) ?_
    repeat (quiet_step (first|(go_at_call 45;exact Calls.kV (J.out _))))
    refine wpQuiet_nil ?_;intro t B;have D:=cb B;clear B Z d;have M:=Qh (A.out.trans (D.mono A.out.size));clear D;go_wp2;go_ret;exact⟨by rw[E.out];rfl,M.out⟩
  ·have ng:¬((k:Int)<(n:Int)):=by omega
   have E:Hid (r=true):=Qh (by
    rw[←T.out];rcases Nat.eq_zero_or_pos n with h0|h0
    ·have:xs=[]:=List.eq_nil_of_length_eq_zero (by rw[I.out,h0])
     rw[this];rfl
    ·rw[←Ip,Qi,I.out,show n=k by omega]
     exact X.out)
   go_wp2;go_ret;exact⟨by rw[E.out];rfl,A.out⟩
theorem emitC:EmitC where
 pack w p n c xs hR hN:=Gq w p n c xs hR hN
 unpack w p n c bs q m d zs h1 h2 h3 h4 h5 h6 hN:=JY w p n c bs q m d zs h1 h2 h3 h4 h5 h6 hN
 sorted w p n c xs hM _:=Gs w p n c xs hM
end D3
namespace Tre
open Mem
def hA:av:=⟨[97],[98],49,0,0,0,0,[]⟩
def nA:aw:=⟨[97],[],[97],48,0,0,0,0,[120]⟩
theorem Te:bD [bT]=false:=by decide+kernel
theorem UA {y:MP} (hb:ao w b 48 y.cs) (hB:dq w y):dr w (some ⟨b,0,none⟩) 1 [y]:=by
 refine⟨rfl,fun x A=>by rw[List.mem_singleton]at A;subst A;exact hB,fun _=>⟨b,0,rfl,hb.lt,fun i hi j B=>?_⟩⟩;obtain rfl:i=0:=by omega
 rw[show 0+8*0+j=j by omega];exact hb.cell j
theorem vU {y:NP} (hb:ao w b 52 y.cs) (hB:cT w y):aY w (some ⟨b,0,none⟩) 1 [y]:=by
 refine⟨rfl,fun x A=>by rw[List.mem_singleton]at A;subst A;exact hB,fun _=>⟨b,0,rfl,hb.lt,fun i hi j B=>?_⟩⟩;obtain rfl:i=0:=by omega
 rw[show 0+9*0+j=j by omega];exact hb.cell j
theorem Ge (w:World) (m:aw) (h:m.body=[]):cT w ⟨m,none,0⟩:=by
 refine⟨?_,?_,?_⟩
 ·show cB w none m.body.length m.body
  rw[h];exact fun A=>absurd A (by decide)
 ·show m.body.length≤0
  rw[h];exact Qk _
 ·show(0:Nat)≤_
  decide
end Tre
namespace D3
open Rec Mem Tre oa
theorem OO:bD [nA]=true:=by decide+kernel
theorem K8:eY [nA]=[nA.mem]:=by decide+kernel
theorem vZ:(jD [nA]).length=2048:=by
 have A:dh nA.mem:=eE (by decide+kernel);have h:=Du A (by decide+kernel);unfold jD;rw[K8,lF,Qf,List.length_replicate,fN,Qf,h];decide
theorem Gb (H:EmitC) (w:World) (hN:Need w):Calls Tryz.prog 9 #[] w fun e w'=>e=.returned (.bool true)∧Below w.heap.size w w':=by
 have kc:(convert 26 26 (.slice (some ⟨w.heap.size,0,none⟩) 1 1)).run Tryz.prog (w.alloc (.cells #[.int .u8 120] 5))=.ok (.slice (some ⟨w.heap.size,0,none⟩) 1 1) (w.alloc (.cells #[.int .u8 120] 5 (1,2))):=
  Lib.run_convert_bytes_const (P:=Tryz.prog) w 26 5 #[.int .u8 120] 1 1 Tryz.underlying26 Tryz.underlying5
 obtain⟨W1,D⟩:∃W1,(w.alloc (.cells #[.int .u8 120] 5 (1,2))).alloc (.cells #[.string ⟨#[97]⟩,.string ⟨#[]⟩,.string ⟨#[97]⟩,.int .u8 48,.int .i64 0,.int .i64 0,.int .i64 0,.int .i64 0,.slice (some ⟨w.heap.size,0,none⟩) 1 1] 52)=W1:=⟨_,rfl⟩
 have R:Below w.heap.size w W1:=by rw[←D];exact((Below.refl _ w).alloc (Qk _) _).alloc (by simp) _
 have cf:ao W1 (w.heap.size+1) 52 (NP.cs ⟨nA,some ⟨w.heap.size,0,none⟩,1⟩):=by
  have:=ao.new (w.alloc (.cells #[.int .u8 120] 5 (1,2))) 52 (NP.cs ⟨nA,some ⟨w.heap.size,0,none⟩,1⟩);rw[World.size_alloc]at this;rw[←D];exact this
 have E:cB W1 (some ⟨w.heap.size,0,none⟩) 1 [120]:=fun _=>⟨w.heap.size,0,rfl,fun i hi=>by
  obtain rfl:i=0:=by omega
  rw[←D]
  have:(w.alloc (.cells #[.int .u8 120] 5 (1,2))).cell? ⟨w.heap.size,0,none⟩=some (.int .u8 120):=by
   unfold World.cell?;rw[heap_alloc_new];rfl
  exact(((Below.refl (w.heap.size+1) (w.alloc (.cells #[.int .u8 120] 5 (1,2)))).alloc (by simp) _).cell (p:=⟨w.heap.size,0,none⟩) (by show w.heap.size<w.heap.size+1;omega)).trans this⟩
 have B:=H.pack W1 (some ⟨w.heap.size+1,0,none⟩) 1 1 [⟨nA,some ⟨w.heap.size,0,none⟩,1⟩] ⟨vU cf ⟨E,by show(1:Nat)≤1;decide,by show(1:Nat)≤maxLen;decide⟩,Qk _,by decide,fun x A=>by
  rw[List.mem_singleton.1 A];exact⟨by show(1:Nat)≤_;decide,by show(0:Nat)≤_;decide,by show(1:Nat)≤_;decide,by show(1:Nat)≤_;decide⟩⟩ (hN.below R)
 rw[show([⟨nA,some ⟨w.heap.size,0,none⟩,1⟩]:List NP).map NP.m=[nA]from rfl]at B;unfold lz at B;rw[vZ]at B;have Y:=Qh B;have HC:=Qh H;have f:=Qh D;have z:=Qh R;have N:=Qh hN;clear D R cf E B H hN
 go_enter Tryz.func9,Tryz.ntmps9
 go_wp2_with fail
 rw[f.out];refine Y.out.mono ?_;rintro e w2 (⟨_,p2,c2,rfl,R9,XD,l,bZ⟩|⟨hf,_⟩)
 rotate_left
 ·exact absurd OO (by rw[hf];decide)
 have T:=Qh (z.out.trans (bZ.mono z.out.size));have hu:=HC.out.unpack w2 p2 2048 c2 (jD [nA]) none 0 0 [] l vZ (by decide) (KL w2) rfl (by decide) (N.out.below T.out);unfold xh at hu;rw[AO OO]at hu;have c:=Qh hu;clear R9 XD l bZ hu Y f kc;go_wp2_with fail;refine c.out.mono ?_;rintro e w3 ⟨q3,d3,zs,rfl,L,d,_,_,fr⟩;have ff:=Qh (T.out.trans (fr.mono T.out.size))
 have g:zs.length=1:=by
  have:=congrArg List.length L
  simpa using this
 obtain⟨z0,rfl⟩:=List.length_eq_one_iff.1 g;clear g;simp only[List.map_cons,List.map_nil,List.cons.injEq,and_true]at L;obtain⟨m0,p0,c0⟩:=z0;simp only at L;subst L;obtain⟨b,o,rfl,iE,hB,k0⟩:=d.dD (i:=0) (by simp);have G:eP w3 b o ⟨nA,p0,c0⟩:=by simpa using k0
 obtain⟨W4,I⟩:∃W4,(w3.alloc (.cells #[.int .i64 0,.int .i64 0] 32)).alloc (.cells #[.string ⟨#[]⟩,.string ⟨#[]⟩,.string ⟨#[]⟩,.int .u8 0,.int .i64 0,.int .i64 0,.int .i64 0,.int .i64 0,.slice none 0 0] 52)=W4:=⟨_,rfl⟩
 have O:Below w3.heap.size w3 W4:=by rw[←I];exact((Below.refl _ _).alloc (Qk _) _).alloc (by simp) _
 have t:ao W4 w3.heap.size 32 #[.int .i64 0,.int .i64 0]:=by
  have A:=ao.new w3 32 #[.int .i64 0,.int .i64 0];rw[←I];exact A.below ((Below.refl _ _).alloc (Qk _) _) A.lt
 have r:ao W4 (w3.heap.size+1) 52 (NP.cs aG):=by
  have:=ao.new (w3.alloc (.cells #[.int .i64 0,.int .i64 0] 32)) 52 (NP.cs aG);rw[World.size_alloc]at this;rw[←I];exact this
 have U:=Qh (ff.out.trans (O.mono ff.out.size))
 have J:=HC.out.pack W4 (some ⟨w3.heap.size+1,0,none⟩) 1 1 [aG] ⟨vU r (Ge W4 bT rfl),Qk _,by decide,fun x A=>by
  rw[List.mem_singleton.1 A];exact⟨by show(0:Nat)≤_;decide,by show(0:Nat)≤_;decide,by show(0:Nat)≤_;decide,by show(0:Nat)≤_;decide⟩⟩ (N.out.below U.out)
 rw[show([aG]:List NP).map NP.m=[bT]from rfl]at J;unfold lz at J;have X:=Qh J;have u:=Qh I;have q:=Qh O;have W:=Qh t;have Z:=Qh (And.intro iE G);clear d iE hB k0 G I O t r J c fr;go_wp2_with fail;rw[u.out];refine X.out.mono ?_;rintro e w5 (⟨hf,_⟩|⟨_,p5,c5,rfl,M⟩)
 ·exact absurd hf (by rw[Te];decide)
 have y:Below w3.heap.size w3 w5:=q.out.trans (M.mono q.out.size);have f0:=(W.out.below M W.out.lt).cell 0;have s0:w5.cell? ⟨b,o+2,none⟩=some (.string ⟨#[97]⟩):=(Z.out.2.below Z.out.1 y).2.2.1;simp only[Qc,Qa]at f0;have V:=Qh (U.out.trans (M.mono U.out.size));have hs:=HC.out.sorted w5 none 0 0 [] ⟨tv w5 none,Qk _,by decide,by decide,fun x A=>by cases A⟩ (N.out.below V.out);have HS:=Qh hs;clear M y hs X u;go_wp2_with fail;refine HS.out.mono ?_;rintro e w6 ⟨rfl,vD⟩;have AW:=Qh (V.out.trans (vD.mono V.out.size));clear vD f0 s0;go_wp2;go_ret;exact⟨rfl,AW.out⟩
end D3
end Go.Proofs.YtdhibldkldlfpaaGreatDoor
section
namespace Go.Proofs.YtdhibldkldlfpaaGreatDoor.D3
open Go.ChangeShapes Go.WideShapes Go.ChangeAt Go.RowKit Base bJ cn Bk Rec Mem Tre oa Go.Lib
set_option linter.unusedVariables false
set_option maxRecDepth 100000
theorem LG {w:World} {p:Option Addr} {n:Nat} {xs:List NP} (h:aY w p n xs) (hr:∀x∈xs,RU x.m∧sc x):∀x∈xs,x.m.path.length≤140737488351232∧x.m.target.length≤140737488351232∧x.m.af.length≤140737488351232∧x.m.body.length≤140737488351232:=fun x A=>by
 have h1:=(hr x A).2;have B:=(h.2.1 x A).le;exact⟨h1.1,h1.2.1,h1.2.2.1,by have:=h1.2.2.2;omega⟩
end Go.Proofs.YtdhibldkldlfpaaGreatDoor.D3
namespace Go.Proofs.YtdhibldkldlfpaaGreatDoor.Walk
open Go.ChangeShapes Go.WideShapes Go.ChangeAt Go.RowKit Base bJ cn Bk Rec Block Mem Tre oa D3 Go.Lib
set_option linter.unusedVariables false
set_option maxRecDepth 100000
end Go.Proofs.YtdhibldkldlfpaaGreatDoor.Walk
end
namespace Go.Proofs.YtdhibldkldlfpaaGreatDoor
set_option linter.unusedVariables false
set_option maxHeartbeats 8000000
set_option maxRecDepth 100000
open Go.ChangeShapes Go.WideShapes Go.ChangeAt Go.RowKit Base bJ cn Bk Rec Block Mem Tre oa D3 Go.Lib
namespace Walk
def gu (t:List aw) (k:Nat):Nat:=1024+(512*k+((t.take k).map k5).sum)
theorem qE {t:List aw} {k:Nat} (hk:k<t.length):gu t (k+1)=gu t k+512+k5 t[k]:=by
 unfold gu;rw[List.take_succ_eq_append_getElem hk,List.map_append,List.sum_append,List.map_cons,List.map_nil,List.sum_cons,List.sum_nil];omega
theorem vQ {t:List aw} (hg:bD t=true):∀k,k≤t.length→gu t k≤1024+k*1049700
 |0,_=>by show(1024:Nat)≤_;omega
 |k+1,h=>by
  have D:=vQ hg k (by omega);have hk:k<t.length:=by omega
  have A:t[k].body.length≤1048576:=(eE (dJ hg (List.getElem_mem hk)).2.1).body
  have B:k5 t[k]≤1049087:=by
   unfold k5;have:=(j4 t[k].body.length).2;split<;>omega
  rw[qE hk,Nat.succ_mul];omega
theorem B8 (H:EmitC) (a0:Option Addr) (len0 cap0:Nat) (xs0:List NP) (w:World) (ma0:aY w a0 len0 xs0) (lc0:len0≤cap0) (cm0:cap0≤maxLen) (by0:cap0*112≤140737488351232) (rm0:∀x∈xs0,RU x.m∧sc x) (hN:Need w):
 Calls Tryz.prog 7 #[.slice a0 len0 cap0] w fun e w'=>e=.returned (.bool true)∧Below w.heap.size w w':=by
 have PQ:=Qh (LG ma0 rm0);have t:=Qh (zP a0 len0 cap0 xs0 w ma0 lc0 cm0 PQ.out);unfold vf at t;have z:Hid (∀A,Below w.heap.size w A→Calls Tryz.prog 9 #[] A fun e w'=>e=.returned (.bool true)∧Below A.heap.size A w'):=Qh fun A h=>Gb H A (hN.below h)
 have HC:=Qh H;have YQ:=Qh ma0;have HN:=Qh hN;have HL:=Qh ma0.1;have Y1:=Qh (And.intro lc0 cm0);have SZ:Hid (∀x∈xs0,sc x):=Qh (fun x l=>(rm0 x l).2);obtain⟨T,d⟩:∃T,xs0.map NP.m=T:=⟨_,rfl⟩
 have HT:=Qh d;have W:Hid (T.length=len0):=Qh (by rw[←d,Qi];exact ma0.1);obtain⟨g,hg⟩:∃g,bD T=g:=⟨_,rfl⟩
 have Z:=Qh hg
 have q:Hid (∀A,Below w.heap.size w A→Calls Tryz.prog 12 #[.slice a0 len0 cap0] A fun e w'=>e=.returned (.bool g)∧Below A.heap.size A w'):=Qh (fun A h=>by
  have:=DF a0 len0 cap0 xs0 A (ma0.below h) lc0 cm0 (fun x l=>⟨(rm0 x l).2.1,(rm0 x l).2.2.1⟩)
  rwa [d,hg]at this)
 clear ma0 lc0 cm0 by0 rm0 hN H d hg
 go_enter Tryz.func7,Tryz.ntmps7
 go_wp2_with fail
 refine t.out.mono ?_;rintro e w2 ⟨s,rfl,hs,bZ⟩;have M:=Qh bZ;clear t bZ
 cases s with
 |false=>
  clear hs;go_wp2_with fail;refine(z.out _ M.out).mono ?_;rintro e w3 ⟨rfl,U⟩;have O:=Qh (M.out.trans (U.mono M.out.size));clear U;go_wp2;go_ret;exact⟨rfl,O.out⟩
 |true=>
  have A3:=hs rfl;clear hs;go_wp2_with fail;refine(q.out _ M.out).mono ?_;rintro e w3 ⟨rfl,U⟩;have I:=Qh (M.out.trans (U.mono M.out.size));clear U
  cases g with
  |false=>
   go_wp2_with fail
   refine(z.out _ I.out).mono ?_;rintro e w4 ⟨rfl,R⟩;have O:=Qh (I.out.trans (R.mono I.out.size));clear R;go_wp2;go_ret;exact⟨rfl,O.out⟩
  |true=>
   have f:=HC.out.pack w3 a0 len0 cap0 xs0 ⟨YQ.out.below I.out,Y1.out.1,Y1.out.2,PQ.out⟩ (HN.out.below I.out);rw[HT.out]at f;unfold lz at f;have HP:=Qh f;clear f;go_wp2_with fail;refine HP.out.mono ?_;rintro e w4 (⟨_,p4,c4,rfl,XE,QJ,Xt,R⟩|⟨hf,_⟩)
   rotate_left
   ·exact absurd Z.out (by rw[hf];decide)
   have nW:=Qh (I.out.trans (R.mono I.out.size));obtain⟨N,kI⟩:∃k,(jD T).length=k:=⟨_,rfl⟩
   have r:Hid (N % 512=0∧gu T len0≤N∧N≤gu T len0+2048*len0):=Qh (by
    have h1:=Ae Z.out;rw[kI,W.out]at h1
    have c:gu T len0=1024+(512*len0+(T.map k5).sum):=by
     unfold gu;rw[List.take_of_length_le (by rw[W.out];exact Qk _)]
    rw[c]
    exact h1)
   have U4:Hid (∀k,k≤len0→gu T k≤1024+k*1049700):=Qh (fun k hk=>vQ Z.out k (by rw[W.out];exact hk));rw[kI];clear XE QJ Xt R kI HP;go_wp2_with fail
   go_loopw [5,6] (fun s i wr=>∃(k S:Nat),k≤len0∧i=.int .i64 (k:Int)∧s=.int .i64 (S:Int)∧Hid (S=gu T k)∧Hid (Below w.heap.size w wr)) (fun _ i _=>len0 - (RowKit.intOf i).toNat)
   case atStart=>exact⟨0,1024,Nat.zero_le _,rfl,rfl,Qh rfl,nW⟩
   case round=>
    obtain⟨k,S,hk,rfl,rfl,hS,J⟩:=hrel;have ZF:=U4.out k hk;rw[←hS.out]at ZF
    have R4:S≤70000000:=by
     have:k*1049700≤60*1049700:=Nat.mul_le_mul_right _ (by omega);omega
    clear ZF
    by_cases ax:k<len0
    ·have p:k<T.length:=by rw[W.out];exact ax
     obtain⟨b,o,rfl,hb,mM,hc⟩:=(YQ.out.below J.out).dD ax
     have u:T[k]=(xs0.getD k aG).m:=by
      have h1:=HT.out;subst h1;rw[List.getElem_map,List.getD,Qd (by rw[HL.out];exact ax)];rfl
     have OX:T[k].body.length≤1048576:=(eE (dJ Z.out (List.getElem_mem p)).2.1).body;have V:=qE p;obtain⟨y,hy⟩:∃y,xs0.getD k aG=y:=⟨_,rfl⟩
     rw[hy]at hc u;rw[u]at OX V;obtain⟨c0,c1,c2,c3,c4,c5,c6,c7,c8⟩:=hc;have ek:=oJ y.m.kind 48 48 rfl;obtain⟨kn,bQ⟩:∃kn:Int,(y.m.kind.toNat:Int)=kn:=⟨_,rfl⟩
     rw[bQ]at c3 ek;have es:((str y.m.af).toList==(str y.m.path).toList)=decide (y.m.af=y.m.path):=Yx y.m.af y.m.path;obtain⟨bl,iE⟩:∃bl,y.m.body.length=bl:=⟨_,rfl⟩
     have bh:k5 y.m=if y.m.kind=48∧y.m.af=y.m.path then(bl+511) / 512*512 else 0:=by unfold k5 aR;rw[iE]
     rw[iE]at c8 OX;rw[bh,←hS.out]at V;have Wl:=Qh V;obtain⟨S5,Xg⟩:∃S5,S+512=S5:=⟨_,rfl⟩
     have q4:IntKind.i64.wrap ((S:Int)+512)=(S5:Int):=by rw[IntKind.wrap_i64];omega
     have kK:(k:Int)<(len0:Int):=by omega
     clear p hb mM u V hy bQ iE bh c1 c4 c5 c6 c7
     by_cases G:y.m.kind=48
     ·rw[decide_eq_true G]at ek
      by_cases L:y.m.af=y.m.path
      ·have E:gu T (k+1)=S+512+(bl+511) / 512*512:=by rw[Wl.out,if_pos ⟨G,L⟩]
       rw[decide_eq_true L]at es;have B:=Qh E;obtain⟨B1,b6⟩:∃B1,bl+511=B1:=⟨_,rfl⟩
       rw[b6]at B;obtain⟨dv,ZR⟩:∃dv,B1 / 512=dv:=⟨_,rfl⟩
       rw[ZR]at B;obtain⟨D,hD⟩:∃D,dv*512=D:=⟨_,rfl⟩
       rw[hD]at B;obtain⟨S6,ZE⟩:∃S6,S+512+D=S6:=⟨_,rfl⟩
       rw[ZE]at B;have q1:IntKind.i64.wrap ((bl:Int)+511)=(B1:Int):=by rw[IntKind.wrap_i64];omega
       have q2:(B1:Int).tdiv 512=(dv:Int):=by rw[Int.tdiv_eq_ediv_of_nonneg (by omega)];omega
       have q3:IntKind.i64.wrap (dv:Int)=(dv:Int):=by rw[IntKind.wrap_i64];omega
       have q6:IntKind.i64.wrap ((dv:Int)*512)=(D:Int):=by rw[IntKind.wrap_i64];omega
       have q5:IntKind.i64.wrap ((S5:Int)+(D:Int))=(S6:Int):=by rw[IntKind.wrap_i64];omega
       clear G L E b6 ZR hD ZE Xg;go_wp2_with fail
       go_quiet (fail)
       go_wp2;go_roundw
       case rel=>exact⟨k+1,S6,by omega,by go_num,rfl,Qh B.out.symm,Qh (below_drewN J.out _)⟩
       case measure=>simp[RowKit.intOf];omega
      ·have E:gu T (k+1)=S5:=by rw[Wl.out,if_neg (fun h=>L h.2)];omega
       rw[decide_eq_false L]at es;have B:=Qh E;clear G L E Xg;go_wp2_with fail
       go_quiet (fail)
       go_wp2;go_roundw
       case rel=>exact⟨k+1,S5,by omega,by go_num,rfl,Qh B.out.symm,Qh (below_drewN J.out _)⟩
       case measure=>simp[RowKit.intOf];omega
     ·rw[decide_eq_false G]at ek
      have E:gu T (k+1)=S5:=by rw[Wl.out,if_neg (fun h=>G h.1)];omega
      have B:=Qh E;clear G E Xg;go_wp2_with fail
      go_quiet (fail)
      go_wp2;go_roundw
      case rel=>exact⟨k+1,S5,by omega,by go_num,rfl,Qh B.out.symm,Qh (below_drewN J.out _)⟩
      case measure=>simp[RowKit.intOf];omega
    ·obtain rfl:k=len0:=by omega
     have ng:¬((k:Int)<(k:Int)):=by omega
     obtain⟨h1,c,h3⟩:=r.out;rw[←hS.out]at c h3;have XS:2048*k≤122880:=by omega
     obtain⟨X,hX⟩:∃X,2048*k=X:=⟨_,rfl⟩
     obtain⟨Y,hY⟩:∃Y,S+X=Y:=⟨_,rfl⟩
     have m0:(N:Int).tmod 512=0:=by rw[Int.tmod_eq_emod_of_nonneg (by omega)];omega
     have q1:IntKind.i64.wrap (2048*(k:Int))=(X:Int):=by rw[IntKind.wrap_i64];omega
     have q2:IntKind.i64.wrap ((S:Int)+(X:Int))=(Y:Int):=by rw[IntKind.wrap_i64];omega
     have g1:(S:Int)≤(N:Int):=by omega
     have g2:(N:Int)≤(Y:Int):=by omega
     clear h1 c h3 XS hX hY R4;go_wp2_with fail;refine(z.out _ J.out).mono ?_;rintro e w9 ⟨rfl,Ms⟩;have O:=Qh (J.out.trans (Ms.mono J.out.size));clear Ms;go_wp2;go_ret;exact⟨rfl,O.out⟩
theorem emitLeast (a0:Option Addr) (len0 cap0:Nat) (xs0:List NP) (w:World) (ma0:aY w a0 len0 xs0) (lc0:len0≤cap0) (cm0:cap0≤maxLen) (by0:cap0*112≤140737488351232) (rm0:∀x∈xs0,RU x.m∧sc x) (hN:Need w):
 Calls Tryz.prog 7 #[.slice a0 len0 cap0] w fun e w'=>e=.returned (.bool true)∧Below w.heap.size w w':=B8 emitC a0 len0 cap0 xs0 w ma0 lc0 cm0 by0 rm0 hN
end Walk
end Go.Proofs.YtdhibldkldlfpaaGreatDoor
