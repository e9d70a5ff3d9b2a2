/- Merged. -/
import Derived.Test.YtdhibldkldlfpaaGreatDoorEmitOnceX22
import Derived.Test.YtdhibldkldlfpaaGreatDoorEmitOnceX31
import Derived.Test.YtdhibldkldlfpaaGreatDoorEmitOnceX38
import Derived.Test.YtdhibldkldlfpaaGreatDoorEmitOnceX39
import Derived.Test.YtdhibldkldlfpaaGreatDoorEmitOnceX40
import Derived.Shelf.SlIter.Sorted
import Derived.Test.YtdhibldkldlfpaaGreatDoorEmitOnceX34
import Derived.Test.YtdhibldkldlfpaaGreatDoorEmitOnceX37
import Derived.Test.YtdhibldkldlfpaaGreatDoorEmitOnceX36
import Derived.Test.YtdhibldkldlfpaaGreatDoorEmitOnceX27
namespace Go.Proofs.YtdhibldkldlfpaaGreatDoor
set_option linter.unusedVariables false
set_option maxHeartbeats 16000000
set_option maxRecDepth 100000
open Go.ChangeShapes Go.WideShapes Go.ChangeAt Go.RowKit Base bJ cr Bk Go.Lib
variable {ts:List (List UInt8)} {B b c n:Nat} {p:Option Addr} {W w w':World}
namespace fb
open Go.Shelf Mk
variable {f:List UInt8→Option Value}
theorem DP (x y:List UInt8):ltOf oX x y=dF x y:=by
 unfold ltOf;rw[Bool.eq_iff_iff,decide_eq_true_eq,wv]
theorem Xj:Go.Sort.SWO (ltOf oX) where
 irrefl x:=by rw[DP];exact iP x
 trans x y z h1 h2:=by rw[DP]at*;exact fP x y z h1 h2
 ntrans x y z h1 h2:=by
  rw[DP]at*
  cases h:dF x z with
  |false=>rfl
  |true=>rw[xk h h2]at h1;cases h1
def H7 (w:World) (ks:List (List UInt8)) (e:Ending) (w':World):Prop:=
 ∃(v:Value) (ts:List (List UInt8)),e=.returned v∧ts.Perm ks∧ts.Pairwise (fun a b=>dF a b=true)∧w'.ownsRow w.heap.size 9 1 v ts.length (ts.map fun x=>.string (str x))∧Below w.heap.size w w'
theorem Jv (B:Nat) (w:World):Calls Tryz.prog 87 #[.map (some B)] w fun e w'=>e=.returned (.func (.func 131) #[] #[.pointer (some ⟨w.heap.size,0,none⟩)])∧w'=w.alloc (.cells #[.map (some B)] 99):=
 callsIn_wide.1 (AnyZ.keys_in Tryz.yS Fence.wide 4 trivial rfl (some B) w)
theorem GQ {ks:List (List UInt8)} (hp:ts.Perm ks) (hn:ks.Nodup) (hs:ts.Pairwise fun a b=>dF b a=false):ts.Pairwise fun a b=>dF a b=true:=by
 have A:ts.Nodup:=hp.nodup_iff.2 hn;have:=hs.and A;refine this.imp fun⟨h1,A⟩=>?_
 exact ko h1 (fun e=>A e.symm)
theorem Iy (Bm B:Nat) (w:World) (hb:w.cell? ⟨Bm,0,none⟩=some (.map (some B))) (hM:ct gO w B f) (hlen:∀x v,f x=some v→x.length≤maxLen) (ks:List (List UInt8)) (hnd:ks.Nodup) (pY:∀x,x∈ks↔(f x).isSome=true) (hsz:ks.length≤1000000000):
 Calls Tryz.prog 129 #[.func (.func 131) #[] #[.pointer (some ⟨Bm,0,none⟩)]] w fun e w'=>∃(v:Value) (ss:List (List UInt8)),e=.returned v∧ss.Perm ks∧w'.ownsRow w.heap.size 9 1 v ss.length (ss.map encStr)∧(v=.slice none 0 0↔ss=[])∧Below w.heap.size w w':=by
 obtain⟨D,G,E,A⟩:=F6 (P:=Tryz.prog) Tryz.underlying9 hM hlen ks hnd pY (by unfold maxLen;omega);have H:=AnyZ.keys_gives {Tryz.yS with} Fence.wide 4 trivial rfl (by omega) Bm B ks.length D w (World.block_lt_of_cell? _ _ hb) hb G;have h:=AnyZ.collect_in Tryz.JD Fence.wide 6 trivial trivial rfl (by omega) 131 #[.pointer (some ⟨Bm,0,none⟩)] trivial (enters_of Tryz.func131 (by kernel_rfl) rfl) (fun ss=>ss.Perm (strKeys D)) (Maps.size D) (by rw[A];unfold maxLen;omega) (by rw[A];omega) w H;exact(callsIn_wide.1 h).mono fun e w' ⟨v,ss,h1,h2,h3,h4,h5⟩=>⟨v,ss,h1,h2.trans E,h3,h4,h5⟩
theorem CJ (Bm B:Nat) (w:World) (hb:w.cell? ⟨Bm,0,none⟩=some (.map (some B))) (hM:ct gO w B f) (hlen:∀x v,f x=some v→x.length≤maxLen) (ks:List (List UInt8)) (hnd:ks.Nodup) (pY:∀x,x∈ks↔(f x).isSome=true) (hsz:ks.length≤1000000000):
 Calls Tryz.prog 86 #[.func (.func 131) #[] #[.pointer (some ⟨Bm,0,none⟩)],.func (.func 88) #[] #[]] w (H7 w ks):=by
 have HC:=Qh (Iy Bm B w hb hM hlen ks hnd pY hsz);have d:=Qh hnd;have c:=Qh hsz;clear hb hM hlen hnd pY hsz
 go_enter Tryz.func86,Tryz.ntmps86
 go_wp2_with fail
 refine HC.out.mono ?_;rintro e W ⟨v,ss,rfl,A,I,U,D⟩;rcases I.2 with⟨rfl,hz⟩|⟨gb,cap,cur,rfl,L,G,N,O,R,r4⟩
 ·have p:ss=[]:=List.eq_nil_of_length_eq_zero hz
  subst p;have P:=Qh (And.intro A (And.intro I D));have H:=Qh (AnyF.slices_SortFunc_none Tryz.FW none 0 (.func (.func 88) #[] #[]) W);change Hid (Calls Tryz.prog 130 _ _ _)at H;clear A I D U;go_wp2_with fail;refine H.out.mono ?_;rintro e o ⟨rfl,rfl⟩;go_wp2;go_ret;exact⟨.slice none 0 0,[],rfl,P.out.1,List.Pairwise.nil,by simpa using P.out.2.1,P.out.2.2⟩
 ·have hH:Go.Sort.Holds encStr W gb 0 ss.toArray:=holds_of_block G (by simpa using r4)
  have V:gb<W.heap.size:=(Array.getElem?_eq_some_iff.1 G).1;have hl:ss.length≤1000000000:=by rw[A.length_eq];exact c.out
  have J:=Any.slices_SortFunc Tryz.FV encStr (fun _=>rfl) oX Xj 88 #[] gb 0 cap ss.toArray W (enters_of Tryz.func88 (by kernel_rfl) rfl)
   (fun m os q _ x y=>(pQ x y _).mono fun e w' ⟨h1,h2⟩=>⟨h1,0,#[],by rw[←h2,Go.Sort.grow_empty];rfl⟩) hH V (by simp;omega)
  change Calls Tryz.prog 130 _ _ _ at J;rw[List.size_toArray]at J;have H:=Qh J;have P:=Qh (And.intro A (And.intro D (And.intro L (And.intro G (And.intro N (And.intro O R))))));clear J A D U I hH V hl r4;go_wp2_with fail;refine H.out.mono ?_;rintro e o ⟨rfl,d',g,os,X,hs,rfl⟩;have Z:=Qh (And.intro X hs);clear X hs;go_wp2;go_ret;obtain⟨A,D,L,G,N,O,R⟩:=P.out;obtain⟨⟨Y,_,b⟩,hs⟩:=Z.out;have M:d'.toList.length=ss.length:=by simpa using Y
  have T:d'.toList.Perm ss:=by
   have:(d'.extract 0 ss.length).toList.Perm (ss.toArray.extract 0 ss.length).toList:=b;have e:ss.length=d'.size:=by simpa using Y.symm
   simpa [e,List.take_of_length_le (Nat.le_of_eq e)]using this
  refine⟨_,d'.toList,rfl,T.trans A,GQ (T.trans A) d.out ?_,?_,D.grown (grownBy_sorted _) D.size (fun j E=>by cases E;exact L)⟩
  ·refine List.pairwise_iff_getElem.2 fun i j hi E l=>?_
   have:=hs i j (Nat.zero_le _) l (by rw[M]at E;exact E);rw[DP]at this;simp only[Array.length_toList]at hi E
   simpa [getElem!_pos,hi,E]using this
  ·rw[M]
   have:=ownsRow_sorted (w:=W) (base:=w.heap.size) (n:=g) (e:=9) (os:=os) (ss:=ss) (ts:=d'.toList) M L G N O R;simp only[Array.toArray_toList]at this;exact this
end fb
namespace fb
open Mk Mem
def zc:gL Nat where
 enc n:=.int .i64 (n:Int)
 kind:=.int .i64
 isKey _:=rfl
 inj a b h:=by injection h with _ h;omega
 same a:=by simp[Instr.sameBits]
def Rq (w:World) (p:Option Addr) (n:Nat) (ts:List (List UInt8)):Prop:=
 0<n→∃b o,p=some ⟨b,o,none⟩∧b<w.heap.size∧∀i,i<n→w.cell? ⟨b,o+i,none⟩=some (.string (str (ts.getD i [])))
theorem Rq.bG {S:Nat→Prop} (h:Rq w p n ts) (hk:Kept S w w') (hn:∀k,k<w.heap.size→¬S k):Rq w' p n ts:=fun B=>by
 obtain⟨b,o,rfl,A,hc⟩:=h B;exact⟨b,o,rfl,Nat.lt_of_lt_of_le A hk.size,fun i hi=>by rw[World.cell?_of_block (hk.block b A (hn b A))];exact hc i hi⟩
theorem CA {base:Nat} {e:TypeId} {v:Value} (h:w.ownsRow base e 1 v ts.length (ts.map fun x=>.string (str x))):
 ∃p c,v=.slice p ts.length c∧Rq w p ts.length ts:=by
 have D:=h;have B:=h.lt;rcases h.2 with⟨rfl,A⟩|⟨g,cap,cur,rfl,hg,_,h1,h2,_⟩
 ·exact⟨none,0,by rw[A],fun E=>by omega⟩
 ·refine⟨some ⟨g,0,none⟩,cap,rfl,fun A=>⟨g,0,rfl,(B g rfl).2,fun i hi=>?_⟩⟩
  rw[Nat.zero_add,D.cellAt i (by omega),List.getElem?_map,Qd (by omega)];simp[List.getD,hi]
def lF (f:Nat→Option Nat):Nat→Option Value:=fun x=>(f x).map fun n=>.int .i64 (n:Int)
def Ic (w:World) (t:List av) (e:Ending) (w':World):Prop:=
 ∃q d zs,e=.returned (.slice q t.length d)∧zs.map NP.m=t∧bt w' q t.length zs∧t.length≤d∧d≤maxLen∧Below w.heap.size w w'∧(∀x,q=some x→w.heap.size≤x.block)∧(∀y∈zs,∀x,y.p=some x→w.heap.size≤x.block)
structure TI (w w4 wr:World) (gt bl g B:Nat) (p:Option Addr) (n c:Nat) (ms:List aq) (S T:St) (k:Nat) (zs:List NP):Prop where
 bel:Below w.heap.size w wr
 kp:Kept (pB gt (some bl)) w4 wr
 lay:kP wr g B p n c (look S)
 row:Rw wr gt zs
 len:zs.length=T.length
 map:ct zc wr bl (lF (leads ms T k))
 done:∀j,j<k→(zs.getD j aN).m=ft ms T (T.getD j ([],0))
 rest:∀j,k≤j→zs.getD j aN=aN
 yg:∀x∈zs,fa wr x∧∀a,x.p=some a→w4.heap.size≤a.block
theorem TI.step {w4 wr W':World} {gt bl g:Nat} {ms:List aq} {S T:St} {k:Nat} {zs:List NP} (hI:TI w w4 wr gt bl g B p n c ms S T k zs) (hk:k<T.length) (uQ:Kept (pB gt (some bl)) wr W') (hb:Below w.heap.size w W')
 (hw:w.heap.size≤gt∧w.heap.size≤bl∧gt<w4.heap.size∧bl<w4.heap.size) (ay:g<w.heap.size∧B<w.heap.size) {y:NP} (cO:Rw W' gt (zs.set k y)) (tU:ct zc W' bl (lF (leads ms T (k+1)))) (hy:y.m=ft ms T (T.getD k ([],0))) (wK:fa W' y) (Po:∀a,y.p=some a→w4.heap.size≤a.block):
 TI w w4 W' gt bl g B p n c ms S T (k+1) (zs.set k y):=by
 have E:k<zs.length:=by rw[hI.len];exact hk
 have off:∀b,b<w.heap.size→¬pB gt (some bl) b:=fun b hb h=>by
  rcases h with h|h
  ·omega
  ·cases h;omega
 refine⟨hb,hI.kp.trans uQ,⟨hI.lay.obj.bG uQ (off g ay.1),hI.lay.map.kept uQ (off B ay.2)⟩,cO,by rw[List.length_set];exact hI.len,tU,fun j H=>?_,fun j H=>?_,fun x A=>?_⟩
 ·rw[getSet zs k j y E]
  by_cases h:j=k
  ·rw[if_pos h,h];exact hy
  ·rw[if_neg h];exact hI.done j (by omega)
 ·rw[getSet zs k j y E,if_neg (by omega)]
  exact hI.rest j (by omega)
 ·rcases List.mem_or_eq_of_mem_set A with A|rfl
  ·obtain⟨h1,D⟩:=hI.yg x A
   refine⟨h1.kept uQ (fun _ a G h=>?_),D⟩;have:=D a G;rcases h with h|h
   ·omega
   ·injection h with h;omega
  ·exact⟨wK,Po⟩
theorem JO {y:MP} (h:ao W b 48 y.cs):
 W.cell? ⟨b,1,none⟩=some (.string (str y.m.target))∧W.cell? ⟨b,2,none⟩=some (.int .u8 (y.m.kind.toNat:Int))∧W.cell? ⟨b,3,none⟩=some (.int .i64 y.m.mode)∧W.cell? ⟨b,4,none⟩=some (.int .i64 y.m.uid)∧W.cell? ⟨b,5,none⟩=some (.int .i64 y.m.gid)∧W.cell? ⟨b,6,none⟩=some (.int .i64 y.m.time)∧W.cell? ⟨b,7,none⟩=some (.slice y.p y.m.body.length y.c):=
 ⟨h.cell 1,h.cell 2,h.cell 3,h.cell 4,h.cell 5,h.cell 6,h.cell 7⟩
theorem sN (S:St) (x:List UInt8):(eT (look S) x).isSome=(look S x).isSome:=by
 unfold eT
 cases look S x<;>rfl
theorem Kz (g B:Nat) (p:Option Addr) (n c:Nat) (xs:List MP) (S:St) (w:World) (hM:cN w p n xs) (hn:n≤1000000000) (hL:kP w g B p n c (look S)) (hA:gv S) (hS:H6 S n) (hsz:S.length≤1000000) (hlen:∀e∈S,e.1.length≤maxLen) (hR:∀x∈xs,x.m.body.length≤140737488351232):
 Calls Tryz.prog 61 #[.pointer (some ⟨g,0,none⟩)] w (Ic w (dQ (xs.map MP.m) S)):=by
 obtain⟨i0,hi,fz,ez,eB⟩:=info_parts DF;have HI:=Qh hi;have kN:=Qh fz;have jG:=Qh ez;have kO:=Qh eB;have Ho:=@run_makeMap Tryz.prog;have HM:=Qh hM;have xJ:=Qh hM.1;have HL:=Qh hL;have HA:=Qh hA;have HS:=Qh hS;have kJ:=Qh hlen;have MU:=Qh hR;have g1:=hL.obj.cell 1;simp only[Qc,Qa,Qb]at g1;have eY:=Qh (Jv B w);have c9:Below w.heap.size w (w.alloc (.cells #[.map (some B)] 99)):=(Below.refl _ _).alloc (Qk _) _;have OG:=hL.below c9
 have gJ:=Qh (CJ w.heap.size B (w.alloc (.cells #[.map (some B)] 99)) ((ao.new w 99 #[.map (some B)]).cell 0) OG.map (fun x v hv=>by
  have:x∈S.map (·.1):=(lA x).1 (by rw[←sN,hv];rfl);obtain⟨e,he,rfl⟩:=List.mem_map.1 this
  exact hlen e he) (S.map fun e:List UInt8 × Nat=>e.1) hA (fun x=>by rw[sN,lA]) (by rw[Qi];omega))
 have N8:=Qh c9;have fF:=Qh hsz;clear hi fz ez eB hM hL hA hS hlen hR OG c9 hsz
 go_enter Tryz.func61,Tryz.ntmps61
 go_wp2_with fail
 refine eY.out.mono ?_;rintro e w1 ⟨rfl,rfl⟩;go_wp2_with fail;refine gJ.out.mono ?_;rintro e A ⟨v,ts,rfl,gB,Ns,u,bI⟩;obtain⟨p3,c3,rfl,SK⟩:=CA u;have cf:=Qh (N8.out.trans (bI.mono N8.out.size));have Lk:=Qh SK;have Q5:=Qh (And.intro gB Ns);have Sw:ts.length=S.length:=by rw[gB.length_eq,Qi]
 have Ld:=Qh Sw;obtain⟨m,hm⟩:∃m,ts.length=m:=⟨_,rfl⟩
 rw[hm]at Lk Ld⊢;have U2:=Qh hm;have Ss:m≤1000000:=by rw[←hm,Sw];exact fF.out
 clear gB Ns u bI SK Sw hm g1 eY gJ
 go_wp2_with (at_make;refine wpList_make_full _ rfl _ _ 22 rfl A.heap.size 52 i0 _ 9 Tryz.underlying22 HI.out kN.out jG.out .i64 .i64 _ _ m rfl rfl rfl rfl ?mk1 ?mk2 (Qk _) ?_)
 case mk1=>rw[kO.out];omega
 case mk2=>unfold maxLen;omega
 intro w3 lj bh
 have KV:=D7 (B:=A.heap.size) (w':=w3) (g:=A.heap.size) (n:=m) (by
  have h9:=lj;rw[sF]at h9
  exact h9)
 have dc:Kept af A w3:=(Kept.refl af A).grown bh (fun k h=>by cases h);have fN:Below A.heap.size A w3:=dc.below (Qk _) (fun _ h=>h.elim);have MV:=Qh KV;have eI:=Qh fN;have X:Hid (A.heap.size<w3.heap.size):=Qh (ao.lt KV);clear lj bh KV dc fN;obtain⟨w4,qJ⟩:∃w4,w3.alloc (.map #[] 0)=w4:=⟨_,rfl⟩
 have fA:Below w3.heap.size w3 w4:=by rw[←qJ];exact(Below.refl _ _).alloc (Qk _) _
 have L0:ct zc w4 w3.heap.size (fun _=>none):=by rw[←qJ];exact iw zc w3
 have L4:w4.heap.size=w3.heap.size+1:=by rw[←qJ];simp
 obtain⟨T,hT⟩:∃T,ef S=T:=⟨_,rfl⟩
 have HT:Hid (T=ts.map fun x=>(x,(look S x).getD 0)):=Qh (by rw[←hT];exact FR HA.out Q5.out.1 Q5.out.2);have XJ:Hid (dQ (xs.map MP.m) S=T.map (ft (xs.map MP.m) T)):=Qh (by rw[dQ,hT]);have MW:Hid (T.length=m):=Qh (by rw[HT.out,Qi,U2.out]);have mN:=Qh (cf.out.trans ((eI.out.trans (fA.mono eI.out.size)).mono cf.out.size));have Ri:Hid (Rq w4 p3 m ts):=Qh (Lk.out.bG (Kept.aM (eI.out.trans (fA.mono eI.out.size)) af) (fun _ _ h=>h.elim))
 have qP:Hid (0<m→∀a,p3=some a→a.block<A.heap.size):=Qh (fun h0 a O=>by
  obtain⟨b,o,he,hb,_⟩:=Lk.out h0;rw[O]at he
  cases he
  exact hb)
 have TE:Hid (TI w w4 w4 A.heap.size w3.heap.size g B p n c (xs.map MP.m) S T 0 (List.replicate m aN)):=Qh
  {bel:=mN.out,kp:=Kept.refl _ _,lay:=HL.out.below mN.out,row:=ao.below MV.out fA X.out,len:=by rw[List.length_replicate,MW.out]
   map:=by
    have e:lF (leads (xs.map MP.m) T 0)=fun _=>none:=by funext n;unfold lF;rw[BS];rfl
    rw[e];exact L0
   done:=fun j hj=>by omega
   rest:=fun j _=>by
    rw[List.getD,List.getElem?_replicate];split<;>rfl
   yg:=fun x I=>by
    rw[(List.mem_replicate.1 I).2]
    exact⟨KI _,fun a h=>by cases h⟩}
 have U0:=Qh L4;clear fA L0 hT MV eI Lk L4;go_upto_region 4 with fail;clear qJ Ho;go_wp2_with fail
 go_loopw [6,7,8,9,10,11,24,59] (fun _ _ _ _ _ _ i _ wr=>∃(k:Nat) (zs:List NP),k≤m∧i=.int .i64 (k:Int)∧Hid (TI w w4 wr A.heap.size w3.heap.size g B p n c (xs.map MP.m) S T k zs)) (fun _ _ _ _ _ _ i _ _=>m - (RowKit.intOf i).toNat)
 case atStart=>exact⟨0,List.replicate m aN,Nat.zero_le _,rfl,TE⟩
 case round=>
  obtain⟨k,zs,hk,rfl,E⟩:=hrel
  by_cases ay:k<m
  ·have L:k<T.length:=by rw[MW.out];exact ay
   have R:k<zs.length:=by rw[E.out.len];exact L
   have O9:k<ts.length:=by rw[U2.out];exact ay
   obtain⟨x,I⟩:∃x,ts.getD k []=x:=⟨_,rfl⟩
   have Y9:x∈ts:=by rw[←I,List.getD,Qd O9];exact List.getElem_mem O9
   obtain⟨G,Nk⟩:=Option.isSome_iff_exists.1 ((lA x).2 (Q5.out.1.mem_iff.1 Y9))
   have t:T.getD k ([],0)=(x,G):=by
    rw[HT.out,List.getD,List.getElem?_map,Qd O9];rw[List.getD,Qd O9]at I;simp only[Option.getD_some]at I;simp only[Option.map_some,Option.getD_some,I,Nk]
   have Hq:G<n:=HS.out.look Nk
   have D:w.heap.size≤A.heap.size∧w.heap.size≤w3.heap.size∧A.heap.size<w4.heap.size∧w3.heap.size<w4.heap.size:=by
    have h1:=cf.out.size;have N:=X.out;have h3:=U0.out;omega
   have U:g<w.heap.size∧B<w.heap.size:=⟨HL.out.obj.lt,HL.out.map.lt⟩
   obtain⟨b3,o3,T9,fN,yB⟩:=Ri.out (by omega);have OM:=qP.out (by omega) _ T9;subst T9
   have RU:¬pB A.heap.size (some w3.heap.size) b3:=fun h=>by
    have h3:=X.out;rcases h with h|h
    ·simp only at OM;omega
    ·injection h with h;simp only at OM;omega
   have NS:Hid (∀W',Kept (pB A.heap.size (some w3.heap.size)) w4 W'→∀i,i<m→W'.cell? ⟨b3,o3+i,none⟩=some (.string (str (ts.getD i [])))):=Qh (fun W' hk i hi=>by
    rw[World.cell?_of_block (hk.block b3 fN RU)];exact yB i hi)
   have z0:=NS.out wr E.out.kp k ay;rw[I]at z0;have g0:=E.out.lay.obj.cell 0;have g1:=E.out.lay.obj.cell 1;simp only[Qc,Qa,Qb]at g0 g1
   have lk:(Instr.lookup 99 (.map (some B)) (.string (str x)) false).run Tryz.prog wr=.ok (.int .i64 (G:Int)) wr:=by
    have h:=E.out.lay.map.look (P:=Tryz.prog) Tryz.underlying99 Tryz.underlying9 (z:=.int .i64 0) (fun w=>Tryz.zeroValue3 w) x;rw[show eT (look S) x=some (.int .i64 (G:Int)) by rw[eT,Nk];rfl]at h;exact h
   obtain⟨b1,o1,zX,b7,nx,OT⟩:=(HM.out.below E.out.bel).jx Hq;subst zX;have IZ:=iF xs G;have VB:=MU.out _ (k8 xs G (by rw[xJ.out];exact Hq));obtain⟨y,hy⟩:∃y,xs.getD G bB=y:=⟨_,rfl⟩
   rw[hy]at nx OT IZ VB;obtain⟨c0,c1,c2,c3,c4,c5,c6,c7⟩:=OT;obtain⟨W5,na⟩:∃W5,wr.alloc (.cells y.cs 48)=W5:=⟨_,rfl⟩
   have tH:Below wr.heap.size wr W5:=by rw[←na];exact(Below.refl _ _).alloc (Qk _) _
   have TK:ao W5 wr.heap.size 48 y.cs:=by rw[←na];exact ao.new wr _ _
   have vQ:=Qh tH;have Tp:=Qh TK;have Tq:Hid (∀w',Below W5.heap.size W5 w'→w'.cell? ⟨wr.heap.size,1,none⟩=some (.string (str y.m.target))∧w'.cell? ⟨wr.heap.size,2,none⟩=some (.int .u8 (y.m.kind.toNat:Int))∧w'.cell? ⟨wr.heap.size,3,none⟩=some (.int .i64 y.m.mode)∧w'.cell? ⟨wr.heap.size,4,none⟩=some (.int .i64 y.m.uid)∧w'.cell? ⟨wr.heap.size,5,none⟩=some (.int .i64 y.m.gid)∧w'.cell? ⟨wr.heap.size,6,none⟩=some (.int .i64 y.m.time)∧w'.cell? ⟨wr.heap.size,7,none⟩=some (.slice y.p y.m.body.length y.c)):=Qh (fun w' h=>JO (TK.below h TK.lt));have W:Hid (Below W5.heap.size W5 W5.drew):=Qh (below_drewN (Below.refl W5.heap.size W5) 1);have K5:Hid (∀w',Below W5.heap.size W5 w'→Calls Tryz.prog 49 #[.slice y.p y.m.body.length y.c] w' (il w' y.m.body.length y.m.body)):=Qh (fun w' h=>jN y.p y.m.body.length y.c y.m.body w' ((nx.below tH).below h).iZ rfl VB);unfold il at K5;have H:=Qh (And.intro L (And.intro R (And.intro t (And.intro D U))));have Ec:=Qh IZ;have K9:Hid (A.heap.size<wr.heap.size):=Qh (ao.lt E.out.row);have Wv:(G:Int)<(n:Int):=by omega
   have Sz:(0:Int)≤(G:Int):=by omega
   have aa9:(k:Int)<(m:Int):=by omega
   unfold MP.cs cI at na;have HX:=Qh I;clear L R O9 Y9 t Hq D U fN yB OM RU b7 nx IZ VB hy tH TK Nk I;go_upto_region 9 with fail;clear na c0 c1 c2 c3 c4 c5 c6 c7 g0 g1 lk z0;go_wp2_with fail
   go_region_held_law (fun w'=>w'.cell? ⟨wr.heap.size,1,none⟩=some (.string (str y.m.target))∧w'.cell? ⟨wr.heap.size,2,none⟩=some (.int .u8 (y.m.kind.toNat:Int))∧w'.cell? ⟨wr.heap.size,3,none⟩=some (.int .i64 y.m.mode)∧w'.cell? ⟨wr.heap.size,4,none⟩=some (.int .i64 y.m.uid)∧w'.cell? ⟨wr.heap.size,5,none⟩=some (.int .i64 y.m.gid)∧w'.cell? ⟨wr.heap.size,6,none⟩=some (.int .i64 y.m.time)∧w'.cell? ⟨wr.heap.size,7,none⟩=some (.slice y.p y.m.body.length y.c)) (first|with_reducible exact Tq.out _ W.out|exact JO (zF K4.out (Nat.ne_of_lt K9.out) _ _ _ _ _ _ _ _ _)) (first
    |(go_at_call 49
      refine(K5.out _ ?_).mono ?_
      (with_reducible exact W.out)
      rintro e wa ⟨q,d,rfl,hle,Nj,nb,Bz,M7⟩;have W:=Qh (W.out.trans (M7.mono W.out.size));have K4:=Qh (Tp.out.below W.out Tp.out.lt);have J:Rw wa A.heap.size zs:=ao.below (ao.below E.out.row vQ.out K9.out) W.out (Nat.lt_of_lt_of_le K9.out vQ.out.size);have vW:=Qh J;have P:=Qh (And.intro hle (And.intro Nj (And.intro nb Bz)));obtain⟨r0,r1,r2,r3,r4,r5,r6,r7,r8⟩:=J.dX H.out.2.1;have f0:=ao.frozen J (k*9);have f1:=ao.frozen J (k*9+1);have f2:=ao.frozen J (k*9+2);have f3:=ao.frozen J (k*9+3);have f4:=ao.frozen J (k*9+4);have f5:=ao.frozen J (k*9+5);have f6:=ao.frozen J (k*9+6);have f7:=ao.frozen J (k*9+7);have f8:=ao.frozen J (k*9+8)
      clear hle Nj nb Bz M7 J))
   obtain⟨W6,Dt⟩:∃W6,(((((((((wa.setCell ⟨A.heap.size,k*9,none⟩ (.string (str x))).setCell ⟨A.heap.size,k*9+1,none⟩ (.string (str y.m.target))).setCell ⟨A.heap.size,k*9+2,none⟩ (.string ⟨#[]⟩)).setCell ⟨A.heap.size,k*9+3,none⟩ (.int .u8 (y.m.kind.toNat:Int))).setCell ⟨A.heap.size,k*9+4,none⟩ (.int .i64 y.m.mode)).setCell ⟨A.heap.size,k*9+5,none⟩ (.int .i64 y.m.uid)).setCell ⟨A.heap.size,k*9+6,none⟩ (.int .i64 y.m.gid)).setCell ⟨A.heap.size,k*9+7,none⟩ (.int .i64 y.m.time)).setCell ⟨A.heap.size,k*9+8,none⟩ (.slice q y.m.body.length d))=W6:=⟨_,rfl⟩
   have Dz:Kept (aw A.heap.size) wa W6:=by rw[←Dt];exact D6 (S:=aw A.heap.size) rfl _ _ _ _ _ _ _ _ _
   have Nr:Rw W6 A.heap.size (zs.set k ⟨fE x y.m [],q,d⟩):=by rw[←Dt];exact vW.out.set H.out.2.1 ⟨fE x y.m [],q,d⟩
   have Nh:ao W6 wr.heap.size 48 y.cs:=by rw[←Dt];exact zF K4.out (Nat.ne_of_lt K9.out) _ _ _ _ _ _ _ _ _
   rw[Dt];clear Dt r0 r1 r2 r3 r4 r5 r6 r7 r8 f0 f1 f2 f3 f4 f5 f6 f7 f8;have WM:Below wr.heap.size wr wa:=vQ.out.trans (W.out.mono vQ.out.size);have Hv:Hid (Kept (pB A.heap.size (some w3.heap.size)) wr W6):=Qh ((Kept.aM WM _).trans (Dz.mono (fun k h=>.inl h)))
   have r:Hid (∀a,q=some a→w4.heap.size≤a.block):=Qh (fun a O=>by
    have h1:=P.out.2.2.2 a O;have N:=vQ.out.size;have h3:=E.out.kp.size;have h4:W5.heap.size≤a.block:=h1
    omega)
   have Y:Hid (fa W6 ⟨fE x y.m [],q,d⟩):=Qh ⟨P.out.2.2.1.kept Dz (fun _ a O h=>by
    have h1:=r.out a O;have N:a.block=A.heap.size:=h;have h3:=H.out.2.2.2.1.2.2.1
    omega),P.out.1,P.out.2.1⟩
   have mO:Hid (ct zc W6 w3.heap.size (lF (leads (xs.map MP.m) T k))):=Qh ((E.out.map.kept (Kept.aM WM af) (fun h=>h.elim)).kept Dz (fun e=>by have h1:=X.out;have N:w3.heap.size=A.heap.size:=e;omega));have Hz:=Qh Nr
   have lW:Hid (ft (xs.map MP.m) T (T.getD k ([],0))=fE x y.m (if y.m.kind=48 then iN T G else[])):=Qh (by
    rw[H.out.2.2.1];unfold ft
    rw[Ec.out])
   have y2:=Nh.cell 2;have ek:=si y.m.kind 48 48 rfl;obtain⟨kn,bV⟩:∃kn:Int,(y.m.kind.toNat:Int)=kn:=⟨_,rfl⟩
   simp only[MP.cs,cI,Qc,Qa,Qb]at y2;rw[bV]at y2 ek;clear WM Dz Nr Nh bV
   by_cases V:y.m.kind=48
   ·rw[decide_eq_true V]at ek
    have PV:=Qh V;have UH:Hid (((xs.map MP.m).getD (T.getD k ([],0)).2 bQ).kind=48):=Qh (by rw[H.out.2.2.1,Ec.out];exact V);have Z:=Qh (mO.out.look_ok (P:=Tryz.prog) Tryz.underlying156 Tryz.underlying3 (z:=.int .i64 0) (fun w=>Tryz.zeroValue3 w) G);have Rl:Hid ((T.getD k ([],0)).2=G):=Qh (by rw[H.out.2.2.1]);obtain⟨fo,Bu⟩:∃fo,leads (xs.map MP.m) T k G=fo:=⟨_,rfl⟩
    have vS:=Qh Bu;unfold lF at Z;rw[Bu]at Z;clear V Bu
    cases fo with
    |none=>
     have Px:(Instr.lookup 156 (.map (some w3.heap.size)) (.int .i64 (G:Int)) true).run Tryz.prog W6=.ok (.tuple #[.int .i64 0,.bool false]) W6:=Z.out;clear Z
     go_wp2_with (at_mapUpdate;refine cD (K:=zc) rfl (.tmp 68) (.tmp 69) (.tmp 70) rfl Tryz.underlying156 Tryz.underlying3 w3.heap.size mO.out rfl G rfl (.int .i64 (k:Int)) rfl ?_)
     intro w7 q7 tK Pj;have O8:Kept (pB A.heap.size (some w3.heap.size)) W6 w7:=tK.out.mono (fun k h=>.inr (by rw[show k=w3.heap.size from h]));have QU:=Qh (Hv.out.trans O8);have M:Rw w7 A.heap.size (zs.set k ⟨fE x y.m [],q,d⟩):=ao.bG Hz.out tK.out (fun e=>by have h1:=X.out;have N:A.heap.size=w3.heap.size:=e;omega);have z0:=NS.out w7 (E.out.kp.trans QU.out) k ay;rw[HX.out]at z0
     have RD:ct zc w7 w3.heap.size (lF (leads (xs.map MP.m) T (k+1))):=by
      have e:=FZ H.out.1 UH.out (by rw[Rl.out];exact vS.out)
      have e2:lF (leads (xs.map MP.m) T (k+1))=fun y=>if y=G then some (.int .i64 (k:Int))else lF (leads (xs.map MP.m) T k) y:=by
       funext v
       unfold lF;rw[e,Rl.out]
       by_cases h:v=G<;>simp[h]
      rw[e2];exact q7.out
     have RC:iN T G=x:=by
      have h:=sx H.out.1 UH.out;rw[Rl.out,vS.out,Option.getD_none,H.out.2.2.1]at h;exact h
     have HN:Hid (TI w w4 (w7.setCell ⟨A.heap.size,k*9+2,none⟩ (.string (str x))) A.heap.size w3.heap.size g B (some ⟨b1,o1,none⟩) n c (xs.map MP.m) S T (k+1) (zs.set k ⟨fE x y.m x,q,d⟩)):=by
      have uQ:Kept (pB A.heap.size (some w3.heap.size)) wr (w7.setCell ⟨A.heap.size,k*9+2,none⟩ (.string (str x))):=QU.out.setCell (a:=⟨A.heap.size,k*9+2,none⟩) (.inr (.inl rfl)) _;have Pk:Kept (aw A.heap.size) w7 (w7.setCell ⟨A.heap.size,k*9+2,none⟩ (.string (str x))):=(Kept.refl (aw A.heap.size) _).setCell (a:=⟨A.heap.size,k*9+2,none⟩) (.inr rfl) _;obtain⟨L,R,t,D,U⟩:=H.out
      have u:Rw (w7.setCell ⟨A.heap.size,k*9+2,none⟩ (.string (str x))) A.heap.size (zs.set k ⟨fE x y.m x,q,d⟩):=by
       have h:=Rw.lead (k:=k) M (by rw[List.length_set];exact R) x;rw[List.set_set,getSet zs k k _ R,if_pos rfl]at h;exact h
      refine Qh (E.out.step L uQ (E.out.bel.trans (uQ.below E.out.bel.size (fun b hb=>by
       rcases hb with hb|hb
       ·rw[hb];exact D.1
       ·injection hb with hb;rw[hb];exact D.2.1))) D U u (RD.kept Pk (fun e=>by have h1:=X.out;have N:w3.heap.size=A.heap.size:=e;omega)) ?_ ?_ ?_)
      ·rw[lW.out]
       show fE x y.m x=_;rw[if_pos PV.out,RC]
      ·exact⟨(Y.out.iZ.kept (O8.setCell (a:=⟨A.heap.size,k*9+2,none⟩) (.inr (.inl rfl)) _) (fun _ a O h=>by
        have h1:=r.out a O;rcases h with h|h
        ·omega
        ·injection h with h;omega)),Y.out.le,Y.out.mx⟩
      ·exact r.out
     have r2:=(M.dX (show k<(zs.set k ⟨fE x y.m [],q,d⟩).length by rw[List.length_set];exact H.out.2.1)).2.2.1;have f2:=ao.frozen M (k*9+2);have YA:(k:Int)<(m:Int):=by omega
     clear O8 M RD RC q7 tK Pj;go_wp2;go_roundw
     case rel=>exact⟨k+1,_,by omega,by go_num,HN⟩
     case measure=>simp[RowKit.intOf];omega
    |some f=>
     have V9:=JI vS.out;have Yq:f<m:=by omega
     have Px:(Instr.lookup 156 (.map (some w3.heap.size)) (.int .i64 (G:Int)) true).run Tryz.prog W6=.ok (.tuple #[.int .i64 (f:Int),.bool true]) W6:=Z.out;obtain⟨l,hl⟩:∃l,ts.getD f []=l:=⟨_,rfl⟩
     have z0:=NS.out W6 (E.out.kp.trans Hv.out) f Yq;rw[hl]at z0
     have RD:ct zc W6 w3.heap.size (lF (leads (xs.map MP.m) T (k+1))):=by
      rw[F0 H.out.1 (by rw[Rl.out];exact vS.out)];exact mO.out
     have RC:iN T G=l:=by
      have h:=sx H.out.1 UH.out;rw[Rl.out,vS.out,Option.getD_some]at h;rw[h,←hl,HT.out,List.getD,List.getD,List.getElem?_map,Qd (show f<ts.length by rw[U2.out];exact Yq)];rfl
     have M:=Hz.out
     have HN:Hid (TI w w4 (W6.setCell ⟨A.heap.size,k*9+2,none⟩ (.string (str l))) A.heap.size w3.heap.size g B (some ⟨b1,o1,none⟩) n c (xs.map MP.m) S T (k+1) (zs.set k ⟨fE x y.m l,q,d⟩)):=by
      have uQ:Kept (pB A.heap.size (some w3.heap.size)) wr (W6.setCell ⟨A.heap.size,k*9+2,none⟩ (.string (str l))):=Hv.out.setCell (a:=⟨A.heap.size,k*9+2,none⟩) (.inr (.inl rfl)) _;have Pk:Kept (aw A.heap.size) W6 (W6.setCell ⟨A.heap.size,k*9+2,none⟩ (.string (str l))):=(Kept.refl (aw A.heap.size) _).setCell (a:=⟨A.heap.size,k*9+2,none⟩) (.inr rfl) _;obtain⟨L,R,t,D,U⟩:=H.out
      have u:Rw (W6.setCell ⟨A.heap.size,k*9+2,none⟩ (.string (str l))) A.heap.size (zs.set k ⟨fE x y.m l,q,d⟩):=by
       have h:=Rw.lead (k:=k) M (by rw[List.length_set];exact R) l;rw[List.set_set,getSet zs k k _ R,if_pos rfl]at h;exact h
      refine Qh (E.out.step L uQ (E.out.bel.trans (uQ.below E.out.bel.size (fun b hb=>by
       rcases hb with hb|hb
       ·rw[hb];exact D.1
       ·injection hb with hb;rw[hb];exact D.2.1))) D U u (RD.kept Pk (fun e=>by have h1:=X.out;have N:w3.heap.size=A.heap.size:=e;omega)) ?_ ?_ ?_)
      ·rw[lW.out]
       show fE x y.m l=_;rw[if_pos PV.out,RC]
      ·exact⟨(Y.out.iZ.kept ((Kept.refl (pB A.heap.size (some w3.heap.size)) W6).setCell (a:=⟨A.heap.size,k*9+2,none⟩) (.inr (.inl rfl)) _) (fun _ a O h=>by
        have h1:=r.out a O;rcases h with h|h
        ·omega
        ·injection h with h;omega)),Y.out.le,Y.out.mx⟩
      ·exact r.out
     have r2:=(M.dX (show k<(zs.set k ⟨fE x y.m [],q,d⟩).length by rw[List.length_set];exact H.out.2.1)).2.2.1;have f2:=ao.frozen M (k*9+2);have YA:(k:Int)<(m:Int):=by omega
     have hfz:(f:Int)<(m:Int):=by omega
     have hf0:(0:Int)≤(f:Int):=by omega
     clear M RD RC hl Z;go_wp2;go_roundw
     case rel=>exact⟨k+1,_,by omega,by go_num,HN⟩
     case measure=>simp[RowKit.intOf];omega
   ·rw[decide_eq_false V]at ek
    have HN:Hid (TI w w4 W6 A.heap.size w3.heap.size g B (some ⟨b1,o1,none⟩) n c (xs.map MP.m) S T (k+1) (zs.set k ⟨fE x y.m [],q,d⟩)):=by
     obtain⟨L,R,t,D,U⟩:=H.out
     refine Qh (E.out.step L Hv.out (E.out.bel.trans (Hv.out.below E.out.bel.size (fun b hb=>by
      rcases hb with hb|hb
      ·rw[hb];exact D.1
      ·injection hb with hb;rw[hb];exact D.2.1))) D U Hz.out ?_ ?_ Y.out r.out)
     ·rw[yT L (by rw[t,Ec.out];exact V)]
      exact mO.out
     ·rw[lW.out,if_neg V]
    clear V;go_wp2;go_roundw
    case rel=>exact⟨k+1,_,by omega,by go_num,HN⟩
    case measure=>simp[RowKit.intOf];omega
  ·have pY:¬((k:Int)<(m:Int)):=by omega
   have P:Hid (zs.map NP.m=dQ (xs.map MP.m) S∧bt wr (some ⟨A.heap.size,0,none⟩) (dQ (xs.map MP.m) S).length zs∧(dQ (xs.map MP.m) S).length=m):=Qh (by
    have hl:=E.out.len;have YA:k=T.length:=by rw[MW.out];omega
    have e:zs.map NP.m=dQ (xs.map MP.m) S:=by
     rw[XJ.out];apply List.ext_getElem
     ·rw[Qi,Qi,hl]
     ·intro i h1 N
      rw[Qi]at h1 N;have:=E.out.done i (by omega);rw[List.getD,Qd h1,List.getD,Qd N]at this
      simpa using this
    have hlen:(dQ (xs.map MP.m) S).length=m:=by rw[XJ.out,Qi,MW.out]
    refine⟨e,?_,hlen⟩;have:=E.out.row.nodes (fun x I=>(E.out.yg x I).1);rw[hl,MW.out]at this
    rw[hlen];exact this)
   go_wp2;go_ret;refine⟨some ⟨A.heap.size,0,none⟩,m,zs,by rw[P.out.2.2];rfl,P.out.1,P.out.2.1,by rw[P.out.2.2];exact Qk _,by unfold maxLen;omega,E.out.bel,fun x I=>?_,fun y hy x I=>?_⟩
   ·cases I
    exact cf.out.size
   ·exact Nat.le_trans mN.out.size ((E.out.yg y hy).2 x I)
end fb
namespace tN
open Mk Mem fb
variable {m:aq}
theorem MC {g n:Nat} (h:w'.ownsRow B 48 8 (.slice (some ⟨g,0,none⟩) n n) n (madeCells #[.string ⟨#[]⟩,.string ⟨#[]⟩,.int .u8 0,.int .i64 0,.int .i64 0,.int .i64 0,.int .i64 0,.slice none 0 0] (n*8)).toList):Rm w' g (List.replicate n bB):=by
 rcases h.2 with⟨h1,_⟩|⟨g',cap,cur,h1,_,hg,h2,h3,h4,h5⟩
 ·cases h1
 ·cases h1
  refine⟨cur,hg,by rw[List.length_replicate];omega,fun i hi j D=>?_⟩;rw[List.length_replicate]at hi
  have e:(List.replicate n bB).getD i bB=bB:=by
   rw[List.getD,List.getElem?_replicate,if_pos hi];rfl
  have A:cur.toList[8*i+j]? =(madeCells #[Value.string ⟨#[]⟩,.string ⟨#[]⟩,.int .u8 0,.int .i64 0,.int .i64 0,.int .i64 0,.int .i64 0,.slice none 0 0] (n*8)).toList[8*i+j]? :=by
   rw[←h5,List.getElem?_take,if_pos (by omega)]
  rw[e,←Array.getElem?_toList,A,Array.getElem?_toList];unfold madeCells;rw[Array.getElem?_map,Array.getElem?_range,if_pos (by omega)];simp only[Option.map_some];rw[show(8*i+j) % (#[Value.string ⟨#[]⟩,.string ⟨#[]⟩,.int .u8 0,.int .i64 0,.int .i64 0,.int .i64 0,.int .i64 0,.slice none 0 0]:Array Value).size=j by show(8*i+j) % 8=j;omega]
  match j,D with
  |0,_=>rfl
  |1,_=>rfl
  |2,_=>rfl
  |3,_=>rfl
  |4,_=>rfl
  |5,_=>rfl
  |6,_=>rfl
  |7,_=>rfl
theorem xy {g:Nat} {ys:List MP} (h:Rm W g ys) {k j:Nat} (hk:k<ys.length) (hj:j<8) (u:Value) (y:MP) (hy:∀i,i<8→y.cs[i]? =if i=j then some u else(ys.getD k bB).cs[i]?):Rm (W.setCell ⟨g,k*8+j,none⟩ u) g (ys.set k y):=by
 obtain⟨cur,D,hs,hc⟩:=h;refine⟨cur.setIfInBounds (k*8+j) u,bz D _ u,by rw[List.length_set];simpa using hs,fun i hi l hl=>?_⟩;rw[List.length_set]at hi;rw[l8 ys k i y hk,Array.getElem?_setIfInBounds]
 by_cases B:i=k
 ·subst B
  rw[if_pos rfl,hy l hl]
  by_cases A:l=j
  ·subst A
   rw[if_pos (by omega),if_pos (by omega),if_pos rfl]
  ·rw[if_neg (by omega),if_neg A,hc i hi l hl]
 ·rw[if_neg B,if_neg (by omega),hc i hi l hl]
theorem MB {g:Nat} {ys:List MP} {k:Nat} (h:Rm W g (ys.set k ⟨m,p,c⟩)) (hk:k<ys.length) (l:List UInt8):
 Rm ((W.setCell ⟨g,k*8+2,none⟩ (.int .u8 49)).setCell ⟨g,k*8+1,none⟩ (.string (str l))) g (ys.set k ⟨{m with kind:=49,target:=l},p,c⟩):=by
 have B:k<(ys.set k ⟨m,p,c⟩).length:=by rw[List.length_set];exact hk
 have h1:=xy h B (j:=2) (by omega) (.int .u8 49) ⟨{m with kind:=49},p,c⟩ (fun i hi=>by
  rw[l8 ys k k _ hk,if_pos rfl]
  match i,hi with
  |0,_=>rfl
  |1,_=>rfl
  |2,_=>rfl
  |3,_=>rfl
  |4,_=>rfl
  |5,_=>rfl
  |6,_=>rfl
  |7,_=>rfl)
 rw[List.set_set]at h1
 have A:=xy h1 (k:=k) (j:=1) (by rw[List.length_set];exact hk) (by omega) (.string (str l)) ⟨{m with kind:=49,target:=l},p,c⟩ (fun i hi=>by
  rw[l8 ys k k _ hk,if_pos rfl]
  match i,hi with
  |0,_=>rfl
  |1,_=>rfl
  |2,_=>rfl
  |3,_=>rfl
  |4,_=>rfl
  |5,_=>rfl
  |6,_=>rfl
  |7,_=>rfl)
 rw[List.set_set]at A;exact A
theorem Ki {g:Nat} {ys:List MP} {k:Nat} (h:Rm W g (ys.set k ⟨m,p,c⟩)) (hk:k<ys.length) (b:List UInt8) (q:Option Addr) (d:Nat):
 Rm (W.setCell ⟨g,k*8+7,none⟩ (.slice q b.length d)) g (ys.set k ⟨{m with body:=b},q,d⟩):=by
 have A:k<(ys.set k ⟨m,p,c⟩).length:=by rw[List.length_set];exact hk
 have h1:=xy h A (j:=7) (by omega) (.slice q b.length d) ⟨{m with body:=b},q,d⟩ (fun i hi=>by
  rw[l8 ys k k _ hk,if_pos rfl]
  match i,hi with
  |0,_=>rfl
  |1,_=>rfl
  |2,_=>rfl
  |3,_=>rfl
  |4,_=>rfl
  |5,_=>rfl
  |6,_=>rfl
  |7,_=>rfl)
 rw[List.set_set]at h1;exact h1
theorem Ix (w:World) (m:aq) (h:m.body=[]):dx w ⟨m,none,0⟩:=by
 refine⟨?_,?_,Nat.zero_le _⟩
 ·show cj w none m.body.length m.body
  rw[h];exact cj.none_ w none
 ·show m.body.length≤0
  rw[h];exact Qk _
structure xS (w w2 w4 wr:World) (M g:Nat) (t:List av) (os:List (List UInt8)) (n k:Nat) (ys:List MP):Prop where
 bel:Below w2.heap.size w2 wr
 kp:w4.heap.size≤wr.heap.size
 map:ct gO wr M (eT (cb t os k))
 row:Rm wr g ys
 len:ys.length=n
 done:∀i,i<k→(ys.getD i bB).m=du t os i
 yg:∀y∈ys,dx wr y∧∀a,y.p=some a→w4.heap.size≤a.block
section
variable {w w2 w4 wr W':World} {M g n k:Nat} {t:List av} {os:List (List UInt8)} {ys:List MP}
theorem xS.step (h:xS w w2 w4 wr M g t os n k ys) (hk:k<n) (uQ:Kept (pB g (some M)) wr W') (hg:w2.heap.size≤g∧g<w4.heap.size∧w2.heap.size≤M∧M<w4.heap.size)
 {y:MP} (cO:Rm W' g (ys.set k y)) (tU:ct gO W' M (eT (cb t os (k+1)))) (hy:y.m=du t os k) (wK:dx W' y) (Po:∀a,y.p=some a→w4.heap.size≤a.block):
 xS w w2 w4 W' M g t os n (k+1) (ys.set k y):=by
 have E:k<ys.length:=by rw[h.len];exact hk
 refine⟨h.bel.trans (uQ.below h.bel.size (fun b hb=>?_)),Nat.le_trans h.kp uQ.size,tU,cO,by rw[List.length_set];exact h.len,fun j G=>?_,fun x A=>?_⟩
 ·rcases hb with hb|hb
  ·rw[hb];exact hg.1
  ·injection hb with hb;rw[hb];exact hg.2.2.1
 ·rw[l8 ys k j y E]
  by_cases h1:j=k
  ·rw[if_pos h1,h1];exact hy
  ·rw[if_neg h1];exact h.done j (by omega)
 ·rcases List.mem_or_eq_of_mem_set A with A|rfl
  ·obtain⟨h1,B⟩:=h.yg x A
   refine⟨h1.kept uQ (fun _ a D e=>?_),B⟩;have:=B a D;rcases e with e|e
   ·omega
   ·injection e with e;omega
  ·exact⟨wK,Po⟩
end
theorem JL {t:List av} {os:List (List UInt8)} (hg:bF t=true) (ho:ck t os):Py t os=(dC t os,0):=by
 unfold Py;rw[if_pos ((sO hg os).2 ho)]
theorem S2 {t:List av} {os:List (List UInt8)} (hg:bF t=true) (ho:¬ck t os):Py t os=([],1):=by
 unfold Py;rw[if_neg (fun h=>ho ((sO hg os).1 h))]
theorem xg (w:World) (p:Option Addr) (n c:Nat) (xs:List NP) (a:Option Addr) (m d:Nat) (os:List (List UInt8)) (hN:nD w p n c xs) (hO:Dd w a m d os):
 Calls Tryz.prog 21 #[.slice p n c,.slice a m d] w (nC w (Py (xs.map NP.m) os)):=by
 obtain⟨i0,hi,fz,ez,eB⟩:=info_parts DE;have HI:=Qh hi;have kN:=Qh fz;have jG:=Qh ez;have kO:=Qh eB;have Ho:=@run_makeMap Tryz.prog;have Tt:=Qh (yL w p n c xs a m d os hN hO);have R9:=hN.few;have HG:=Qh hN.Oy;have HO:=Qh hO.at_;have MU:=Qh hN.room;have ZS:=Qh hN.at_.2.1;obtain⟨t,ht⟩:∃t,xs.map NP.m=t:=⟨_,rfl⟩
 have HT:=Qh ht;unfold Da at Tt;rw[ht]at Tt HG⊢;clear hi fz ez eB hN hO ht
 go_enter Tryz.func21,Tryz.ntmps21
 go_wp2_with fail
 refine Tt.out.mono ?_;rintro e A (⟨q,zs,rfl,Y2,Zc,YM,qI,Ji,g⟩|⟨rfl,tV,g⟩)
 ·have U1:=Qh Y2
  have P7:=Qh Zc;have KL:=Qh YM;have lW:=Qh qI;have NW:=Qh Ji;have cf:=Qh g;clear Y2 Zc YM qI Ji g Tt
  go_wp2_with (at_make;refine wpList_make_full _ rfl _ _ 38 rfl A.heap.size 48 i0 _ 8 Tryz.underlying38 HI.out kN.out jG.out .i64 .i64 _ _ n rfl rfl rfl rfl (by rw[kO.out];omega) (by unfold maxLen;omega) (Qk _) ?_)
  intro w3 lj bh;have KV:Rm w3 A.heap.size (List.replicate n bB):=MC (B:=A.heap.size) lj;have dc:Kept af A w3:=(Kept.refl af A).grown bh (fun k h=>by cases h);have o:Below A.heap.size A w3:=dc.below (Qk _) (fun _ h=>h.elim)
  have Wn:A.heap.size<w3.heap.size:=by
   obtain⟨cur,hc,_⟩:=KV;exact hc.lt
  obtain⟨w4,qJ⟩:∃w4,w3.alloc (.map #[] 0)=w4:=⟨_,rfl⟩
  have fA:Below w3.heap.size w3 w4:=by rw[←qJ];exact(Below.refl _ _).alloc (Qk _) _
  have L0:ct gO w4 w3.heap.size (fun _=>none):=by rw[←qJ];exact iw gO w3
  have L4:w4.heap.size=w3.heap.size+1:=by rw[←qJ];simp
  have QX:Hid (xS w A w4 w4 w3.heap.size A.heap.size t os n 0 (List.replicate n bB)):=Qh
   {bel:=o.trans (fA.mono o.size)
    kp:=Qk _
    map:=by
     have e:eT (cb t os 0)=fun _=>none:=by funext l;rfl
     rw[e];exact L0
    row:=tj KV fA
    len:=by simp
    done:=fun i hi=>by omega
    yg:=fun y hy=>by
     rw[(List.mem_replicate.1 hy).2]
     exact⟨Ix _ NG rfl,fun a h=>by cases h⟩}
  have H:Hid (A.heap.size≤A.heap.size∧A.heap.size<w4.heap.size∧A.heap.size≤w3.heap.size∧w3.heap.size<w4.heap.size):=Qh ⟨Qk _,by omega,by omega,by omega⟩;obtain⟨M,hM⟩:∃M,w3.heap.size=M:=⟨_,rfl⟩
  rw[hM]at QX H;clear lj bh KV dc o fA L0 L4 Wn;go_upto_region 6 with fail;clear qJ Ho hM;go_wp2_with fail
  go_loopw [10,11,12,13,28] (fun _ _ _ _ i wr=>∃(k:Nat) (ys:List MP),k≤n∧i=.int .i64 (k:Int)∧Hid (xS w A w4 wr M A.heap.size t os n k ys)) (fun _ _ _ _ i _=>n - (RowKit.intOf i).toNat)
  case atStart=>exact⟨0,_,Nat.zero_le _,rfl,QX⟩
  case round=>
   obtain⟨k,ys,hk,rfl,G⟩:=hrel
   by_cases R:k<n
   ·have qG:k<ys.length:=by rw[G.out.len];exact R
    obtain⟨b1,o1,rfl,b7,nx,hc⟩:=(lW.out.below G.out.bel).dX R;have cQ:=py U1.out R;obtain⟨v,hv⟩:∃v,zs.getD k aN=v:=⟨_,rfl⟩
    rw[hv]at nx hc cQ;have jR:v∈xs:=List.mem_of_find?_eq_some cQ
    have r:nodeAt t (os.getD k [])=v.m:=by
     unfold nodeAt;rw[←HT.out,←o7,cQ];rfl
    have tJ:=dJ HG.out (x:=v.m) (by rw[←HT.out];exact List.mem_map.2 ⟨v,jR,rfl⟩);have YV:=MU.out v jR;have ZT:=Qh (ZS.out v jR);obtain⟨c0,c1,c2,c3,c4,c5,c6,c7,c8⟩:=hc;obtain⟨W5,u⟩:∃W5,wr.alloc (.cells v.cs 52)=W5:=⟨_,rfl⟩
    have tH:Below wr.heap.size wr W5:=by rw[←u];exact(Below.refl _ _).alloc (Qk _) _
    have I:ao W5 wr.heap.size 52 v.cs:=by rw[←u];exact ao.new wr _ _
    have X7:=G.out.map.kept (Kept.aM tH af) (fun h=>h.elim);have TU:=tj G.out.row tH;have Yu:A.heap.size<wr.heap.size:=by have h1:=H.out.2.1;have N:=G.out.kp;omega
    have Zq:=Qh Yu;unfold NP.cs kq at u;have ek:=yP v.m.kind 48 48 rfl;obtain⟨kn,bV⟩:∃kn:Int,(v.m.kind.toNat:Int)=kn:=⟨_,rfl⟩
    have gP:=Qh bV;have z0:=I.cell 0;have z1:=I.cell 1;have z3:=I.cell 3;have z4:=I.cell 4;have z5:=I.cell 5;have z6:=I.cell 6;have z7:=I.cell 7;simp only[NP.cs,kq,Qc,Qa,Qb]at z0 z1 z3 z4 z5 z6 z7;rw[bV]at u c3 z3 ek;obtain⟨r0,r1,r2,r3,r4,r5,r6,r7⟩:=TU.jx qG
    have D:∀i,W5.frozen? ⟨A.heap.size,i,none⟩=false:=fun i=>by
     obtain⟨cur,hc,_⟩:=TU;exact hc.frozen i
    have f0:=D (k*8);have f1:=D (k*8+1);have f2:=D (k*8+2);have f3:=D (k*8+3);have f4:=D (k*8+4);have f5:=D (k*8+5);have f6:=D (k*8+6);have f7:=D (k*8+7);have vQ:=Qh tH;have Zj:=Qh I;have im:=Qh X7;have Af:=Qh TU;have J:=Qh r;have Tr:=Qh tJ;have TB:=Qh YV;have nv:=Qh nx;have Z:=Qh qG;have mD:(k:Int)<(n:Int):=by omega
    clear qG b7 nx cQ hv jR r tJ YV tH I X7 TU Yu bV D;go_upto_region 9 with fail;clear u c0 c1 c2 c3 c4 c5 c6 c7 c8;go_upto_region 10 with fail;obtain⟨W6,Dt⟩:∃W6,((((((((W5.setCell ⟨A.heap.size,k*8,none⟩ (.string (str v.m.path))).setCell ⟨A.heap.size,k*8+1,none⟩ (.string (str v.m.target))).setCell ⟨A.heap.size,k*8+2,none⟩ (.int .u8 kn)).setCell ⟨A.heap.size,k*8+3,none⟩ (.int .i64 v.m.mode)).setCell ⟨A.heap.size,k*8+4,none⟩ (.int .i64 v.m.uid)).setCell ⟨A.heap.size,k*8+5,none⟩ (.int .i64 v.m.gid)).setCell ⟨A.heap.size,k*8+6,none⟩ (.int .i64 v.m.time)).setCell ⟨A.heap.size,k*8+7,none⟩ (.slice none 0 0))=W6:=⟨_,rfl⟩
    obtain⟨mv,Wt⟩:∃mv:aq,(⟨v.m.path,v.m.target,v.m.kind,v.m.mode,v.m.uid,v.m.gid,v.m.time,[]⟩:aq)=mv:=⟨_,rfl⟩
    have Nq:Mx W5 A.heap.size (k*8) ⟨mv,none,0⟩=W6:=by
     rw[←Dt,←Wt,←gP.out];rfl
    have Nr:Rm W6 A.heap.size (ys.set k ⟨mv,none,0⟩):=by rw[←Nq];exact Af.out.set Z.out ⟨mv,none,0⟩
    have LW:Kept (aw A.heap.size) W5 W6:=by rw[←Nq];exact Gs (S:=aw A.heap.size) rfl _
    have O1:A.heap.size≠M:=by
     obtain⟨cur,hc,_⟩:=Af.out;exact kW hc im.out
    have Dz:Kept (pB A.heap.size (some M)) wr W6:=(Kept.aM vQ.out _).trans (LW.mono (fun b h=>.inl h));have T6:ao W6 wr.heap.size 52 v.cs:=Zj.out.bG LW (fun e=>by have h1:=Zq.out;have N:wr.heap.size=A.heap.size:=e;omega);have Nh:ct gO W6 M (eT (cb t os k)):=im.out.kept LW (fun e=>O1 (show M=A.heap.size from e).symm);have Tw:=Qh Wt;have X:=Qh Nr;have Lb:=Qh Dz;have Q0:=Qh T6;have mO:=Qh Nh;have NQ:=Qh O1;have y2:W6.cell? ⟨wr.heap.size,2,none⟩=some (.string (str v.m.ai)):=T6.cell 2;have y3:W6.cell? ⟨wr.heap.size,3,none⟩=some (.int .u8 kn):=by rw[←gP.out];exact T6.cell 3
    rw[Dt];clear Dt Nq Nr LW Dz T6 Nh O1 Wt r0 r1 r2 r3 r4 r5 r6 r7 f0 f1 f2 f3 f4 f5 f6 f7 z0 z1 z3 z4 z5 z6 z7;have XZ:mv.body=[]:=by rw[←Tw.out]
    have Xo:=Qh XZ;clear XZ
    by_cases L:v.m.kind=48
    ·rw[decide_eq_true L,Bool.not_true]at ek
     have PV:Hid ((nodeAt t (os.getD k [])).kind=48):=Qh (by rw[J.out];exact L);have U:=mO.out.look_ok (P:=Tryz.prog) Tryz.underlying99 Tryz.underlying9 (z:=.int .i64 0) (fun w=>Tryz.zeroValue3 w) v.m.ai;obtain⟨fo,Bu⟩:∃fo,cb t os k v.m.ai=fo:=⟨_,rfl⟩
     have vS:Hid (cb t os k (nodeAt t (os.getD k [])).ai=fo):=Qh (by rw[J.out];exact Bu);unfold eT at U;rw[Bu]at U;clear L Bu
     cases fo with
     |some f=>
      have Px:(Instr.lookup 99 (.map (some M)) (.string (str v.m.ai)) true).run Tryz.prog W6=.ok (.tuple #[.int .i64 (f:Int),.bool true]) W6:=U;have V9:f<k:=yu vS.out;have Sx:m=n:=by rw[←HO.out.1,KL.out]
      have RR:Below A.heap.size A W6:=G.out.bel.trans (Lb.out.below G.out.bel.size (fun b hb=>by
       rcases hb with hb|hb
       ·rw[hb];exact Qk _
       ·injection hb with hb;rw[hb];exact H.out.2.2.1))
      obtain⟨b3,o3,rfl,o,yB⟩:=((HO.out.below cf.out).below RR).2 (by omega);have q0:=yB f (by omega);obtain⟨s,hs⟩:∃s,os.getD f []=s:=⟨_,rfl⟩
      rw[hs]at q0;have HS:=Qh hs;have Y:k<(ys.set k ⟨mv,none,0⟩).length:=by rw[List.length_set];exact Z.out
      obtain⟨r0,r1,r2,r3,r4,r5,r6,r7⟩:=X.out.jx Y
      have D:∀i,W6.frozen? ⟨A.heap.size,i,none⟩=false:=fun i=>by
       obtain⟨cur,hc,_⟩:=X.out;exact hc.frozen i
      have f1:=D (k*8+1);have f2:=D (k*8+2);have aa3:(0:Int)≤(f:Int):=by omega
      have aa4:(f:Int)<(m:Int):=by omega
      clear U V9 Sx RR o yB hs Y D r0 r3 r4 r5 r6 r7;go_upto_region 16 with fail;obtain⟨W7,Hg⟩:∃W7,(W6.setCell ⟨A.heap.size,k*8+2,none⟩ (.int .u8 49)).setCell ⟨A.heap.size,k*8+1,none⟩ (.string (str s))=W7:=⟨_,rfl⟩
      have V:Rm W7 A.heap.size (ys.set k ⟨{mv with kind:=49,target:=s},none,0⟩):=by rw[←Hg];exact MB X.out Z.out s
      have O:Kept (aw A.heap.size) W6 W7:=by rw[←Hg];exact((Kept.refl (aw A.heap.size) W6).setCell (a:=⟨A.heap.size,k*8+2,none⟩) (.inr rfl) _).setCell (a:=⟨A.heap.size,k*8+1,none⟩) (.inr rfl) _
      have W:Hid (xS w A w4 W7 M A.heap.size t os n (k+1) (ys.set k ⟨{mv with kind:=49,target:=s},none,0⟩)):=Qh
       (G.out.step R (Lb.out.trans (O.mono (fun b h=>.inl h))) H.out V (by
        rw[Fu vS.out]
        exact mO.out.kept O (fun e=>NQ.out (show M=A.heap.size from e).symm))
        (by rw[Mj PV.out vS.out,J.out,HS.out,←Tw.out];rfl) (Ix _ _ Xo.out) (fun a h=>by cases h))
      rw[Hg];clear Hg V O r1 r2 f1 f2;go_wp2;go_roundw
      case rel=>exact⟨k+1,_,by omega,by go_num,W⟩
      case measure=>simp[RowKit.intOf];omega
     |none=>
      have Px:(Instr.lookup 99 (.map (some M)) (.string (str v.m.ai)) true).run Tryz.prog W6=.ok (.tuple #[.int .i64 0,.bool false]) W6:=U;clear U
      go_wp2_with (at_mapUpdate;refine cD (K:=gO) rfl (.tmp 68) (.tmp 70) (.tmp 71) rfl Tryz.underlying99 Tryz.underlying9 M mO.out rfl v.m.ai rfl (.int .i64 (k:Int)) rfl ?_)
      intro w7 q7 O Pj
      have Ni:ct gO w7 M (eT (cb t os (k+1))):=by
       have e:eT (cb t os (k+1))=fun z=>if z=v.m.ai then some (.int .i64 (k:Int))else eT (cb t os k) z:=by
        funext z
        unfold eT;rw[Ft PV.out vS.out,J.out]
        by_cases h:z=v.m.ai<;>simp[h]
       rw[e];exact q7.out
      have Pa:Kept (pB A.heap.size (some M)) wr w7:=Lb.out.trans (O.out.mono (fun b h=>.inr (by rw[show b=M from h])))
      have RT:Below A.heap.size A w7:=G.out.bel.trans (Pa.below G.out.bel.size (fun b hb=>by
       rcases hb with hb|hb
       ·rw[hb];exact Qk _
       ·injection hb with hb;rw[hb];exact H.out.2.2.1))
      have YH:ao w7 wr.heap.size 52 v.cs:=Q0.out.bG O.out (fun e=>by have h1:=H.out.2.2.2;have N:wr.heap.size=M:=e;have T:=G.out.kp;omega)
      have V:Rm w7 A.heap.size (ys.set k ⟨mv,none,0⟩):=by
       obtain⟨cur,hc,N,T⟩:=X.out;exact⟨cur,hc.bG O.out NQ.out,N,T⟩
      have Nb:=jN v.p v.m.body.length v.c v.m.body w7 ((ZT.out.below cf.out).below RT).iZ rfl TB.out.2.2.2;have y8:w7.cell? ⟨wr.heap.size,8,none⟩=some (.slice v.p v.m.body.length v.c):=YH.cell 8;have QW:=Qh Ni;have QV:=Qh Pa;have H0:=Qh V;have K5:=Qh Nb;clear q7 O Pj Ni Pa RT YH V Nb y2 y3 Px;go_wp2_with fail;refine K5.out.mono ?_;rintro e w8 ⟨q8,d8,rfl,hle,Nj,nb,Bz,Hk⟩;have Uc:=tj H0.out Hk;have Y:k<(ys.set k ⟨mv,none,0⟩).length:=by rw[List.length_set];exact Z.out
      obtain⟨r0,r1,r2,r3,r4,r5,r6,r7⟩:=Uc.jx Y
      have f7:w8.frozen? ⟨A.heap.size,k*8+7,none⟩=false:=by
       obtain⟨cur,hc,_⟩:=Uc;exact hc.frozen _
      have WK:=QV.out.size
      have WD:∀x,q8=some x→w4.heap.size≤x.block:=fun x hx=>by
       have h1:=Bz x hx;have N:=G.out.kp;omega
      have W:Hid (xS w A w4 (w8.setCell ⟨A.heap.size,k*8+7,none⟩ (.slice q8 v.m.body.length d8)) M A.heap.size t os n (k+1) (ys.set k ⟨{mv with body:=v.m.body},q8,d8⟩)):=by
       have pY:Kept (aw A.heap.size) w8 (w8.setCell ⟨A.heap.size,k*8+7,none⟩ (.slice q8 v.m.body.length d8)):=(Kept.refl (aw A.heap.size) w8).setCell (a:=⟨A.heap.size,k*8+7,none⟩) (.inr rfl) _
       refine Qh (G.out.step R ((QV.out.trans (Kept.aM Hk _)).trans (pY.mono (fun b h=>.inl h))) H.out (Ki Uc Z.out v.m.body q8 d8)
        ((QW.out.kept (Kept.aM Hk af) (fun h=>h.elim)).kept pY (fun e=>NQ.out (show M=A.heap.size from e).symm))
        (by rw[Mi PV.out vS.out,J.out,←Tw.out];rfl) ⟨nb.kept pY (fun _ x hx e=>?_),hle,Nj⟩ WD)
       have h1:=WD x hx;have N:=H.out.2.1;have T:x.block=A.heap.size:=e;omega
      clear hle Nj nb Bz Hk Uc Y WK WD r0 r1 r2 r3 r4 r5 r6;go_wp2;go_roundw
      case rel=>exact⟨k+1,_,by omega,by go_num,W⟩
      case measure=>simp[RowKit.intOf];omega
    ·rw[decide_eq_false L,Bool.not_false]at ek
     have W:Hid (xS w A w4 W6 M A.heap.size t os n (k+1) (ys.set k ⟨mv,none,0⟩)):=Qh
      (G.out.step R Lb.out H.out X.out (by rw[yv (by rw[J.out];exact L)];exact mO.out)
       (by
        rw[Ga (by rw[J.out];exact L),J.out,←Tw.out];unfold av.mem
        rw[AL Tr.out.2.1 L]) (Ix _ _ Xo.out) (fun a h=>by cases h))
     clear L;go_wp2;go_roundw
     case rel=>exact⟨k+1,_,by omega,by go_num,W⟩
     case measure=>simp[RowKit.intOf];omega
   ·obtain rfl:k=n:=by omega
    have pY:¬((k:Int)<(k:Int)):=by omega
    have F:Hid (nC w (dC t os,0) (.returned (.tuple #[.slice (some ⟨A.heap.size,0,none⟩) k k,.int .i64 0])) wr):=Qh (by
     have hl:(dC t os).length=k:=by rw[ni NW.out,KL.out]
     have hm:ys.map MP.m=dC t os:=by
      apply List.ext_getElem
      ·rw[Qi,G.out.len,hl]
      ·intro i h1 N
       rw[Qi]at h1;have T:=G.out.done i (by rw[←G.out.len];exact h1);have h4:=km NW.out (show i<os.length by rw[KL.out,←G.out.len];exact h1);rw[LF h1]at T;rw[List.getElem_map,T,←h4,List.getD,Qd N];rfl
     have Ho:=G.out.row.WS (fun y hy=>(G.out.yg y hy).1);rw[G.out.len]at Ho
     refine⟨some ⟨A.heap.size,0,none⟩,k,ys,by rw[hl],hm,by rw[hl];exact Ho,by rw[hl];exact Qk _,by unfold maxLen;omega,cf.out.trans (G.out.bel.mono cf.out.size)⟩)
    have E:Hid (Py t os=(dC t os,0)):=Qh (JL HG.out NW.out);go_wp2;go_ret2;rw[E.out];exact F.out
 ·have E:Hid (Py t os=([],1)):=Qh (S2 HG.out tV)
  have HB:=Qh g;clear tV g;go_wp2;go_ret2;unfold nC;rw[E.out];exact⟨none,0,[],rfl,rfl,sH _ _,Qk _,by decide,HB.out⟩
end tN
namespace fb
open Mk Mem
def rp (w:World) (ms:List aq) (e:Ending) (w':World):Prop:=
 ∃q d zs,e=.returned (.tuple #[.slice q (ej ms).1.length d,.agg #[.int .i64 (ej ms).2.1,.int .i64 ((ej ms).2.2:Int)]])∧zs.map NP.m=(ej ms).1∧bt w' q (ej ms).1.length zs∧(ej ms).1.length≤d∧d≤maxLen∧Below w.heap.size w w'∧(∀x,q=some x→w.heap.size≤x.block)∧(∀y∈zs,∀x,y.p=some x→w.heap.size≤x.block)
theorem uK {ms:List aq} {e i:Int} {k:Nat} (h:ej ms=([],e,k)) (hb:Below w.heap.size w w') (hi:i=(k:Int)):rp w ms (.returned (.tuple #[.slice none 0 0,.agg #[.int .i64 e,.int .i64 i]])) w':=
 ⟨none,0,[],by rw[h,hi];rfl,by rw[h];rfl,by rw[h];exact vd _ _,by rw[h];exact Qk _,by decide,hb,(fun x A=>by cases A),(fun y hy=>by cases hy)⟩
theorem GZ (p:Option Addr) (n c:Nat) (xs:List MP) (w:World) (hM:cN w p n xs) (hn:n≤1000000) (hF:MQ xs) (hR:∀x∈xs,x.m.body.length≤140737488351232) (hT:Path.Tabs w):
 Calls Tryz.prog 26 #[.slice p n c] w (rp w (xs.map MP.m)):=by
 obtain⟨W,hW⟩:∃W,w.alloc (.cells #[.int .i64 0,.int .i64 0] 32)=W:=⟨_,rfl⟩
 have f:Below w.heap.size w W:=by rw[←hW];exact(Below.refl _ _).alloc (Qk _) _
 have RL:ao W w.heap.size 32 #[.int .i64 0,.int .i64 0]:=by rw[←hW];exact ao.new w _ _
 have z:=Qh (pb p n c xs W (hM.below f) (by omega) hF (hT.below f));have HM:=Qh hM;have J:=Qh hM.1;have HF:=Qh hF;have HR:=Qh hR;have oP:=Qh f;have Rn:=Qh RL;obtain⟨bo,VP⟩:∃bo,eM (xs.map MP.m)=bo:=⟨_,rfl⟩
 rw[VP]at z;have Ut:=Qh VP;clear hM hF hR hT f RL VP
 go_enter Tryz.func26,Tryz.ntmps26
 go_upto_region 1 with fail
 clear hW;go_wp2_with fail;refine z.out.mono ?_;rintro e w1 ⟨rfl,b7⟩;have bT:=Qh (oP.out.trans (b7.mono oP.out.size));have H:=Rn.out.below b7 Rn.out.lt;have Y:=Qh H;have x0:=H.cell 0;have G:=H.cell 1;have f0:=H.frozen 0;have f1:=H.frozen 1;simp only[Qc,Qa,Qb]at x0 G;clear b7 H z
 cases bo with
 |some i=>
  have KR:(0:Int)≤(i:Int):=by omega
  simp only[Pt];go_wp2;refine bodyPost_ret (th rfl _ _ w.heap.size _ rfl rfl 1 (i:Int) (nJ Y.out _ _)) rfl ?_;exact uK (uJ Ut.out) ((bT.out.setCell (p:=⟨w.heap.size,0,none⟩) (Qk _) _).setCell (p:=⟨w.heap.size,1,none⟩) (Qk _) _) rfl
 |none=>
  simp only[Pt];clear x0 G f0 f1;have Q1:=Qh (B6 p n c w1);go_wp2_with fail;refine Q1.out.mono ?_;rintro e w2 ⟨g,B,rfl,hL,hg,hB,bI⟩;have cf:=Qh (bT.out.trans (bI.mono bT.out.size));have mB:=Qh (Y.out.below bI Y.out.lt);have u:=Qh (And.intro hg hB);have vT:=Qh hL;have t:Hid (w.heap.size<w1.heap.size):=Qh Y.out.lt;clear hL hg hB bI Q1;go_wp2_with fail
  go_loopw [6,17] (fun _ i wr=>∃(k:Nat) (S:St),k≤n∧i=.int .i64 (k:Int)∧Hid (cR (xs.map MP.m) k=.ok S)∧Hid (kP wr g B p n c (look S))∧Hid (Below w.heap.size w wr)∧Hid (ao wr w.heap.size 32 #[.int .i64 0,.int .i64 0])) (fun _ i _=>n - (RowKit.intOf i).toNat)
  case atStart=>exact⟨0,[],Nat.zero_le _,rfl,Qh rfl,Qh vT.out,cf,mB⟩
  case round=>
   obtain⟨k,S,hk,rfl,hS,X5,D,R⟩:=hrel
   by_cases ay:k<n
   ·have jI:k<(xs.map MP.m).length:=by rw[Qi,J.out];exact ay
    have hIn:=sk (xs.map MP.m) k S (by omega) hS.out;rw[Qi,J.out]at hIn;have O:=Qh (wY w g B p n c xs S k wr HM.out D.out (by have:=u.out.2;have:=t.out;omega) (by omega) ay hIn X5.out);have mD:(k:Int)<(n:Int):=by omega
    have gP:Hid ((xs.map MP.m).length=k+1+(n - (k+1))):=Qh (by rw[Qi,J.out];omega);unfold Db at O;obtain⟨lo,r⟩:∃lo,iM (xs.map MP.m) S k=lo:=⟨_,rfl⟩
    rw[r]at O;have KJ:=Qh r;clear jI hIn r;go_wp2_with fail;refine O.out.mono ?_;rintro e w3 ⟨rfl,X4,dc⟩;have cE:w.heap.size≠B:=by have:=u.out.2;have:=t.out;omega
    have M3:Below w.heap.size w w3:=D.out.trans (dc.below D.out.size (fun b V=>by rw[show b=B from V];have:=u.out.2;have:=t.out;omega));have A:=R.out.bG dc (show ¬aw B w.heap.size from cE);have U:=Qh M3;have Z:=Qh A;have Zy:=Qh X4;have x0:=A.cell 0;have G:=A.cell 1;have f0:=A.frozen 0;have f1:=A.frozen 1;simp only[Qc,Qa,Qb]at x0 G;clear X4 dc cE M3 A O
    cases lo with
    |none=>
     have E:=Qh (rO Ut.out (by rw[gP.out];exact su (BO hS.out KJ.out) _));go_wp2;refine bodyPost_ret (th rfl _ _ w.heap.size _ rfl rfl 7 (k:Int) (nJ Z.out _ _)) rfl ?_;exact uK E.out ((U.out.setCell (p:=⟨w.heap.size,0,none⟩) (Qk _) _).setCell (p:=⟨w.heap.size,1,none⟩) (Qk _) _) rfl
    |some S'=>
     have N4:=Qh (sv hS.out KJ.out);clear x0 G f0 f1;go_wp2;go_roundw
     case rel=>exact⟨k+1,S',by omega,by go_num,N4,Zy,U,Z⟩
     case measure=>simp[RowKit.intOf];omega
   ·have pY:¬((k:Int)<(n:Int)):=by omega
    have bV:k=n:=by omega
    have l:(xs.map MP.m).length=n:=by rw[Qi,J.out]
    have VE:cR (xs.map MP.m) (xs.map MP.m).length=.ok S:=by rw[l,←bV];exact hS.out
    have wP:=sr _ _ _ hS.out;have E:=Qh (rP Ut.out VE)
    have ZO:=Qh (Kz g B p n c xs S wr (HM.out.below D.out) (by omega) X5.out (ly _ _ _ hS.out) (by have:=sk _ _ S (Qk _) VE;rwa [l]at this) (Nat.le_trans wP.len (by omega)) (fun e he=>by
     obtain⟨j,hj,e2⟩:=wP.from_ e he;rw[e2,iF];have:=(HF.out _ (k8 xs j (by rw[J.out];omega))).1;unfold maxLen
     omega) HR.out)
    clear bV l VE wP;go_wp2_with fail;refine ZO.out.mono ?_;rintro e w3 ⟨q,d,zs,rfl,X,I,hd,N,fN,L,hy⟩;have U:=Qh (D.out.trans (fN.mono D.out.size));have A:=R.out.below fN R.out.lt;have Z:=Qh A;have fF:=Qh (And.intro D.out.size R.out.lt);have P:=Qh (And.intro X (And.intro I (And.intro hd (And.intro N (And.intro L hy)))));have x0:=A.cell 0;have G:=A.cell 1;have f0:=A.frozen 0;have f1:=A.frozen 1;simp only[Qc,Qa,Qb]at x0 G;clear X I hd N fN L hy A;go_wp2;refine bodyPost_ret (th rfl _ _ w.heap.size _ rfl rfl 0 0 (nJ Z.out _ _)) rfl ?_;have hbf:=(U.out.setCell (p:=⟨w.heap.size,0,none⟩) (Qk _) (.int .i64 0)).setCell (p:=⟨w.heap.size,1,none⟩) (Qk _) (.int .i64 0);have Wh:Kept (aw w.heap.size) w3 ((w3.setCell ⟨w.heap.size,0,none⟩ (.int .i64 0)).setCell ⟨w.heap.size,1,none⟩ (.int .i64 0)):=((Kept.refl (aw w.heap.size) w3).setCell (a:=⟨w.heap.size,0,none⟩) (.inr rfl) _).setCell (a:=⟨w.heap.size,1,none⟩) (.inr rfl) _;obtain⟨X,I,hd,N,L,hy⟩:=P.out;obtain⟨nW,uS⟩:=fF.out;refine⟨q,d,zs,by rw[E.out];rfl,by rw[E.out];exact X,?_,by rw[E.out];exact hd,N,hbf,fun x M=>Nat.le_trans nW (L x M),fun y T x M=>Nat.le_trans nW (hy y T x M)⟩;rw[E.out];refine⟨I.1,fun y T=>(I.2.1 y T).kept Wh (fun _ x M h=>by have h1:=hy y T x M;have h2:x.block=w.heap.size:=h;omega),fun h0=>?_⟩;obtain⟨b,o,V,jP,hc⟩:=I.2.2 h0;refine⟨b,o,V,Nat.lt_of_lt_of_le jP Wh.size,fun i hi j hj=>?_⟩;rw[World.cell?_of_block (Wh.block b jP (fun h=>by have h1:=L _ V;have h2:b=w.heap.size:=h;simp only at h1;omega))];exact hc i hi j hj
end fb
namespace K1
open Rec Mem fb tN Wr
attribute [local irreducible] wpQuiet
theorem MD {g:Nat} (h:w'.ownsRow B 9 1 (.slice (some ⟨g,0,none⟩) n n) n (madeCells #[.string ⟨#[]⟩] n).toList):Rs w' g (List.replicate n []):=by
 rcases h.2 with⟨h1,_⟩|⟨g',cap,cur,h1,_,hg,h2,h3,h4,h5⟩
 ·cases h1
 ·cases h1
  refine⟨cur,hg,by rw[List.length_replicate];omega,fun i hi=>?_⟩;rw[List.length_replicate]at hi
  have A:cur.toList[i]? =(madeCells #[Value.string ⟨#[]⟩] n).toList[i]? :=by
   rw[←h5,List.getElem?_take,if_pos (by omega)]
  rw[←Array.getElem?_toList,A,toList_madeCells_one,List.getElem?_replicate,if_pos (by omega),List.getD,List.getElem?_replicate,if_pos hi];rfl
theorem D5 {fn:Func} (hf:fn.results=#[.tmp 4,.cell 5 32]) (tmps:Array Value) (w:World) (g:Nat) (v:Value) (ht:tmps.getD 5 undef=.pointer (some ⟨g,0,none⟩)) (hv:tmps.getD 4 undef=v)
 (a b:Int) (hb:ao w g 32 #[.int .i64 a,.int .i64 b]):(results fn tmps).run Tryz.prog w=.ok (.tuple #[v,.agg #[.int .i64 a,.int .i64 b]]) w:=by
 have c0:=hb.cell 0;have c1:=hb.cell 1;simp only[Qc,Qa,Qb]at c0 c1;clear hb;have hl:(loadVar 32 ⟨g,0,none⟩).run Tryz.prog w=.ok (.agg #[.int .i64 a,.int .i64 b]) w:=by go_simp
 have B:tmps[5]?.getD undef=.pointer (some ⟨g,0,none⟩):=by simpa using ht
 have A:tmps[4]?.getD undef=v:=by simpa using hv
 simp only[results,hf];simp[Result.andThen,B,A,asAddr,hl]
theorem A3 (w:World) (p:Option Addr) (n c:Nat) (xs:List NP) (hM:bt w p n xs) (hn:n≤4096):
 Calls Tryz.prog 22 #[.slice p n c] w fun e w'=>∃g,e=.returned (.slice (some ⟨g,0,none⟩) n n)∧Rs w' g (iU (xs.map NP.m))∧Below w.heap.size w w':=by
 obtain⟨i0,hi,f,d,b⟩:=info_parts Ma;have z:=Qh hi;have kN:=Qh f;have jG:=Qh d;have kO:=Qh b;have HM:=Qh hM;have J:=Qh hM.1;clear hi f d b hM
 go_enter Tryz.func22,Tryz.ntmps22
 go_wp2_with (at_make;refine wpList_make_full _ rfl _ _ 55 rfl w.heap.size 9 i0 _ 1 Tryz.underlying55 z.out kN.out jG.out .i64 .i64 _ _ n rfl rfl rfl rfl (by rw[kO.out];omega) (by unfold maxLen;omega) (Qk _) ?_)
 intro w2 r X;have D:=MD (B:=w.heap.size) r;have Y:Kept af w w2:=(Kept.refl af w).grown X (fun k h=>by cases h);have W:Below w.heap.size w w2:=Y.below (Qk _) (fun _ h=>h.elim);have Z:=Qh W;have u:=Qh D;obtain⟨gg,N⟩:∃gg,w.heap.size=gg:=⟨_,rfl⟩
 have O:=Qh N;rw[N]at u Z⊢;clear r X D Y W N;go_wp2_with fail
 go_loopw [4,5,11] (fun _ _ i wr=>∃(k:Nat) (A:List (List UInt8)),k≤n∧i=.int .i64 (k:Int)∧Hid (A.length=n)∧Hid (∀j,j<k→A.getD j []=(xs.getD j aN).m.path)∧Hid (Rs wr gg A)∧Hid (Below gg w wr)) (fun _ _ i _=>n - (RowKit.intOf i).toNat)
 case atStart=>exact⟨0,_,Nat.zero_le _,rfl,Qh (by simp),Qh (fun j h=>by omega),u,Z⟩
 case round=>
  obtain⟨k,A,hk,rfl,E,U,D,G⟩:=hrel
  by_cases V:k<n
  ·obtain⟨b1,o1,rfl,b7,nx,hc⟩:=(HM.out.below (by rw[O.out];exact G.out)).dX V
   obtain⟨y,hy⟩:∃y,xs.getD k aN=y:=⟨_,rfl⟩
   rw[hy]at hc;have HY:=Qh hy;obtain⟨c0,c1,c2,c3,c4,c5,c6,c7,c8⟩:=hc;obtain⟨W5,I⟩:∃W5,wr.alloc (.cells y.cs 52)=W5:=⟨_,rfl⟩
   have T:Below wr.heap.size wr W5:=by rw[←I];exact(Below.refl _ _).alloc (Qk _) _
   have q:ao W5 wr.heap.size 52 y.cs:=by rw[←I];exact ao.new wr _ _
   have M:=Km D.out T;have H:k<A.length:=by rw[E.out];exact V
   obtain⟨r0,f0⟩:=M.at H;have z0:=q.cell 0;unfold NP.cs kq at I;simp only[NP.cs,kq,Qc,Qa]at z0;have UK:Hid (Rs (W5.setCell ⟨gg,k,none⟩ (.string (str y.m.path))) gg (A.set k y.m.path)):=Qh (M.set H y.m.path);have vQ:Hid (Below gg w (W5.setCell ⟨gg,k,none⟩ (.string (str y.m.path)))):=Qh ((G.out.trans (T.mono (by rw[←O.out];exact G.out.size))).setCell (p:=⟨gg,k,none⟩) (Qk _) _)
   have Zm:Hid (∀j,j<k+1→(A.set k y.m.path).getD j []=(xs.getD j aN).m.path):=Qh (fun j hj=>by
    rw[Dq A k j _ H]
    by_cases L:j=k
    ·rw[if_pos L,L,HY.out]
    ·rw[if_neg L];exact U.out j (by omega))
   have mD:(k:Int)<(n:Int):=by omega
   clear hy b7 nx T q M H;go_upto_region 5 with fail;clear I c0 c1 c2 c3 c4 c5 c6 c7 c8;go_wp2;go_roundw
   case rel=>exact⟨k+1,_,by omega,by go_num,Qh (by rw[List.length_set];exact E.out),Zm,UK,vQ⟩
   case measure=>simp[RowKit.intOf];omega
  ·obtain rfl:k=n:=by omega
   have pY:¬((k:Int)<(k:Int)):=by omega
   have wU:A=iU (xs.map NP.m):=by
    apply List.ext_getElem
    ·rw[E.out,nj,Qi,J.out]
    ·intro i h1 h2
     have R:i<k:=by rw[←E.out];exact h1
     have l:=U.out i R;have o:=Ck (t:=xs.map NP.m) (i:=i) (by rw[Qi,J.out];exact R);rw[List.getD,Qd h1,Option.getD_some]at l;rw[List.getD,Qd h2,Option.getD_some]at o;rw[l,o,List.getElem_map,qY (by rw[J.out];exact R)]
   go_wp2;go_ret;exact⟨gg,rfl,by rw[←wU];exact D.out,by rw[O.out];exact G.out⟩
theorem Fi (w:World) (p:Option Addr) (n c:Nat) (xs:List NP) (hR:rz w p n c xs) (hN:Need w):
 Calls Tryz.prog 10 #[.slice p n c] w (jK w (xs.map NP.m)):=by
 have O:=Qh hR.at_;have N:=Qh hR.at_.1;have HC:=Qh (And.intro hR.nc hR.cm);have W:=Qh hR.room;have z:=Qh hN;have L:=G0 p n c xs w hR.at_ hR.nc hR.cm (fun x B=>⟨(hR.room x B).1,(hR.room x B).2.1⟩) hN.xD;obtain⟨g,H⟩:∃g,bF (xs.map NP.m)=g:=⟨_,rfl⟩
 rw[H]at L;have A:=Qh H;have X:=Qh L;clear hR hN L H
 go_enter Tryz.func10,Tryz.ntmps10
 go_wp2_with fail
 refine X.out.mono ?_;rintro e w1 ⟨rfl,Z⟩;have D:=Qh Z;clear Z X
 cases g with
 |false=>
  go_wp2;go_ret2;exact .inr ⟨A.out,none,0,rfl,D.out⟩
 |true=>
  have hn:n≤4096:=by
   have:=IW A.out
   rwa [Qi,N.out]at this
  have o:=A3 w1 p n c xs (O.out.below D.out) hn;have R:=Qh o;clear o;go_wp2_with fail;refine R.out.mono ?_;rintro e w2 ⟨gg,rfl,q,b⟩;have d:=Qh (D.out.trans (b.mono D.out.size));have J:=q.strs;rw[nj,Qi,N.out]at J
  have hm:=xg w2 p n c xs (some ⟨gg,0,none⟩) n n (iU (xs.map NP.m)) ⟨O.out.below d.out,HC.out.1,HC.out.2,by omega,W.out,A.out⟩ ⟨J,Qk _,by unfold maxLen;omega,by omega,fun s hs=>by
   obtain⟨x,B,rfl⟩:=List.mem_map.1 hs;obtain⟨y,hy,rfl⟩:=List.mem_map.1 B
   exact(W.out y hy).1⟩
  rw[JL A.out (jm _)]at hm;unfold nC at hm;have V:=Qh hm;have f:=d;clear hm J q b R;go_wp2_with fail;refine V.out.mono ?_;rintro e w4 ⟨q4,d4,ys,rfl,G,Y,VZ,OV,l⟩;have I:=Qh (f.out.trans (l.mono f.out.size));have T:(dC (xs.map NP.m) (iU (xs.map NP.m))).length≤4096:=ig A.out;have E:=G5 q4 (dC (xs.map NP.m) (iU (xs.map NP.m))).length d4 ys w4 Y T (fun x B=>gq A.out x.m (by unfold eC;rw[←G];exact List.mem_map_of_mem B)) (z.out.below I.out);rw[G]at E;unfold uv at E;have M:=Qh E;clear G Y VZ OV l T E V;go_wp2_with fail;refine M.out.mono ?_;rintro e w5 ⟨v,rfl,u,r⟩;obtain⟨p5,c5,rfl,hle,U,t,_,_⟩:=u.slice;have F:=Qh (And.intro hle (And.intro U (And.intro t (I.out.trans (r.mono I.out.size)))));clear u hle U t r M;go_wp2;go_ret2;exact .inl ⟨A.out,p5,c5,rfl,F.out.1,F.out.2.1,F.out.2.2.1,F.out.2.2.2⟩
theorem xl {bs:List UInt8}:∀m∈(cn bs).1,m.path.length≤200∧m.target.length≤200∧m.body.length≤1048576:=fun m hm=>by
 obtain⟨⟨ms,e,a⟩,h⟩:∃x,cn bs=x:=⟨_,rfl⟩
 rw[h]at hm;rcases sG h with⟨_,h2,_⟩|⟨_,_,h2⟩
 ·simp only[h2]at hm;cases hm
 ·have A:=dZ (h2 m hm)
  exact⟨A.qg,A.vJ,A.body⟩
theorem IF (w:World) (p:Option Addr) (n c:Nat) (bs:List UInt8) (q:Option Addr) (m d:Nat) (zs:List Int) (hb:cj w p n bs) (hl:bs.length=n) (hn:n≤140737488351232) (hq:Eg w q m zs) (hz:zs.length=m) (hm:m*8≤140737488351232) (hN:Need w):
 Calls Tryz.prog 13 #[.slice p n c,.slice q m d] w (nE w bs):=by
 obtain⟨W,y⟩:∃W,w.alloc (.cells #[.int .i64 0,.int .i64 0] 32)=W:=⟨_,rfl⟩
 have L:Below w.heap.size w W:=by rw[←y];exact(Below.refl _ _).alloc (Qk _) _
 have RL:ao W w.heap.size 32 #[.int .i64 0,.int .i64 0]:=by rw[←y];exact ao.new w _ _
 have J:=y9 W p n c bs q m d zs (hb.below L) hl hn (hq.kept (Kept.aM L af) (fun _ _ _ h=>h.elim)) hz hm (hN.below L);unfold MX at J;have V:=Qh (xl (bs:=bs));have Ld:=Qh (mH bs);obtain⟨⟨ms,A,a⟩,t⟩:∃x,cn bs=x:=⟨_,rfl⟩
 have XM:Hid ((A≠0→dR bs=([],A,a))∧(A=0→dR bs=ej ms)):=Qh (by
  unfold dR;rw[t]
  exact⟨fun h=>if_neg h,fun h=>if_pos h⟩)
 rw[t]at J V Ld;obtain⟨l,g⟩:∃z:Int,((a:Nat):Int)=z:=⟨_,rfl⟩
 rw[g]at J;have Zi:=Qh g;have HR:=Qh J;have HN:=Qh hN;have oP:=Qh L;have Rn:=Qh RL;clear hb hl hn hq hz hm hN L RL J t g
 go_enter Tryz.func13,Tryz.ntmps13
 go_upto_region 1 with fail
 clear y;go_wp2_with fail;refine HR.out.mono ?_;rintro e M ⟨q1,c1,xs,rfl,ir,R0,Jr,Za,o⟩;obtain⟨w2,U⟩:∃w2,M.alloc (.cells #[.int .i64 A,.int .i64 l] 32)=w2:=⟨_,rfl⟩
 have b:Below M.heap.size M w2:=by rw[←U];exact(Below.refl _ _).alloc (Qk _) _
 have Y:ao w2 M.heap.size 32 #[.int .i64 A,.int .i64 l]:=by rw[←U];exact ao.new M _ _
 have Z:=o.trans (b.mono o.size);have N:=Qh (oP.out.trans (Z.mono oP.out.size));have I:=Qh (And.intro Jr (And.intro (Za.below b) (And.intro ir R0)));have G:=Rn.out.below Z Rn.out.lt;have oQ:=Qh G;have e0:=Y.cell 0;have e1:=Y.cell 1;have O:=G.cell 0;have R:=G.cell 1;have f0:=G.frozen 0;have f1:=G.frozen 1;simp only[Qc,Qa,Qb]at e0 e1 O R;clear ir R0 Jr Za o b Y Z G HR
 by_cases he:A=0
 ·have H:=Qh (XM.out.2 he)
  subst he;go_upto_region 2 with fail;clear U;clear e1 O R f0 f1
  have hf:=GZ q1 xs.length c1 xs w2 I.out.2.1 (by have:=Ld.out;rw[←Qi (f:=MP.m),I.out.1];omega) (fun x hx=>by
   have:=V.out x.m (by rw[←I.out.1];exact List.mem_map_of_mem hx)
   exact⟨by omega,by omega⟩) (fun x hx=>by
   have:=V.out x.m (by rw[←I.out.1];exact List.mem_map_of_mem hx)
   omega) (HN.out.below N.out).xD
  unfold rp at hf;rw[I.out.1]at hf;obtain⟨⟨T,E,k⟩,u⟩:∃x,ej ms=x:=⟨_,rfl⟩
  rw[u]at hf;have HT:=Qh u;obtain⟨kz,qG⟩:∃z:Int,((k:Nat):Int)=z:=⟨_,rfl⟩
  rw[qG]at hf;have NT:=Qh qG;have HF:=Qh hf;clear hf u qG;go_wp2_with fail;refine HF.out.mono ?_;rintro e w3 ⟨q3,d3,us,rfl,X,j5,Ym,R7,r,_,_⟩;have QH:us.length=T.length:=by rw[←X,Qi]
  have eI:=Qh (N.out.trans (r.mono N.out.size));have D:=oQ.out.below r oQ.out.lt;have TA:=Qh D;have B:=Qh (And.intro X (And.intro j5 (And.intro Ym (And.intro R7 QH))));have O:=D.cell 0;have R:=D.cell 1;have f0:=D.frozen 0;have f1:=D.frozen 1;simp only[Qc,Qa,Qb]at O R;clear X j5 Ym R7 r D e0 HF QH;go_wp2;refine bodyPost_ret (D5 rfl _ _ w.heap.size _ rfl rfl E kz (nJ TA.out _ _)) rfl ?_;refine⟨q3,d3,us,by rw[H.out,HT.out,B.out.2.2.2.2,←NT.out];rfl,by rw[H.out,HT.out];exact B.out.1,?_,by rw[B.out.2.2.2.2];exact B.out.2.2.1,B.out.2.2.2.1,(eI.out.setCell (p:=⟨w.heap.size,0,none⟩) (Qk _) _).setCell (p:=⟨w.heap.size,1,none⟩) (Qk _) _⟩;have hk:Kept (aw w.heap.size) w3 ((w3.setCell ⟨w.heap.size,0,none⟩ (.int .i64 E)).setCell ⟨w.heap.size,1,none⟩ (.int .i64 kz)):=((Kept.refl (aw w.heap.size) w3).setCell (a:=⟨w.heap.size,0,none⟩) (.inr rfl) _).setCell (a:=⟨w.heap.size,1,none⟩) (.inr rfl) _;have hn:=B.out.2.1;rw[←B.out.2.2.2.2]at hn;exact Ge TA.out hn hk
 ·have H:=Qh (XM.out.1 he)
  have cE:(A != 0)=true:=by simpa using he
  clear he;go_upto_region 3 with fail;clear U
  go_still_tail 2,(by kernel_rfl)
  go_wp2;refine bodyPost_ret (D5 rfl _ _ w.heap.size _ rfl rfl A l (nJ (oQ.out.drew) _ _)) rfl ?_;refine⟨none,0,[],by rw[H.out,←Zi.out];rfl,by rw[H.out];rfl,vd _ _,Qk _,by unfold maxLen;omega,((below_drewN N.out 1).setCell (p:=⟨w.heap.size,0,none⟩) (Qk _) _).setCell (p:=⟨w.heap.size,1,none⟩) (Qk _) _⟩
theorem Fk (w:World) (p:Option Addr) (n c:Nat) (xs:List MP) (hM:uw w p n c xs):
 Calls Tryz.prog 19 #[.slice p n c] w fun e w'=>e=.returned (.bool (kB (xs.map MP.m)))∧Below w.heap.size w w':=by
 have R:=Qh hM.at_;have I:=Qh hM.at_.1;obtain⟨r,O⟩:∃r,kB (xs.map MP.m)=r:=⟨_,rfl⟩
 have T:=Qh O;have u:=hM.few;rw[O];clear hM O
 go_enter Tryz.func19,Tryz.ntmps19
 go_wp2_with fail
 go_loopw [3] (fun i wr=>∃(k:Nat),1≤k∧(k≤n∨k=1)∧i=.int .i64 (k:Int)∧Hid (qo (xs.map MP.m) k=true)∧Hid (Below w.heap.size w wr)) (fun i _=>n+1 - (RowKit.intOf i).toNat)
 case atStart=>exact⟨1,Qk _,.inr rfl,rfl,Qh (GD _),Qh (Below.refl _ _)⟩
 case round=>
  obtain⟨k,dV,hk,rfl,X,A⟩:=hrel
  by_cases V:k<n
  ·obtain⟨b,o,rfl,f,q,hc⟩:=(R.out.below A.out).jx V
   obtain⟨z,o',he,_,_,G⟩:=(R.out.below A.out).jx (show k - 1<n by omega)
   cases he
   have M:=iF xs k;have H:=iF xs (k - 1);obtain⟨x,Y⟩:∃x,xs.getD k bB=x:=⟨_,rfl⟩
   obtain⟨y,hy⟩:∃y,xs.getD (k - 1) bB=y:=⟨_,rfl⟩
   rw[Y]at hc M;rw[hy]at G H;obtain⟨m,hm⟩:∃m,k - 1=m:=⟨_,rfl⟩
   rw[hm]at G H;have hS:=Cy (xs.map MP.m) k (by omega);rw[X.out,Bool.true_and,hm,M,H]at hS;have J:Hid (∀p:gw wr,Calls Tryz.prog 45 #[.string (str y.m.path),.string (str x.m.path)] p.w' fun e w'=>e=.returned (.bool (dF y.m.path x.m.path))∧p.w'=w'):=Qh (fun p=>Path.oa y.m.path x.m.path p.w');obtain⟨L,W⟩:∃L,dF y.m.path x.m.path=L:=⟨_,rfl⟩
   rw[W]at J hS;have U:=Qh hS;have Z:=tn hc.1;have d:=tn G.1;have q1:IntKind.i64.wrap ((k:Int) - 1)=(m:Int):=by rw[IntKind.wrap_i64];omega
   have mD:(k:Int)<(n:Int):=by omega
   have g:(m:Int)<(n:Int):=by omega
   have l:Hid (k<(xs.map MP.m).length):=Qh (by rw[Qi,I.out];exact V);clear hc G f q M H Y hy W hm hS
   cases L with
   |true=>
    go_upto_region 4 with fail
    refine bw (by kernel_rfl) (by kernel_rfl) ?_
    repeat (quiet_step (first|(go_at_call 45;exact Calls.kC (J.out _))))
    refine wpQuiet_nil ?_;intro t B;have D:=dK B;clear B Z d;have N:=Qh (A.out.trans (D.mono A.out.size));clear D;go_wp2;go_roundw
    case rel=>exact⟨k+1,by omega,by omega,by go_num,U,N⟩
    case measure=>simp[RowKit.intOf];omega
   |false=>
    have E:Hid (r=false):=Qh (by
     rw[←T.out]
     cases h:kB (xs.map MP.m)with
     |false=>rfl
     |true=>
      have h1:=Kh h (k+1) (by have:=l.out;omega);rw[U.out]at h1
      cases h1)
    go_upto_region 4 with fail
    refine bw (by kernel_rfl) (by kernel_rfl) ?_
    repeat (quiet_step (first|(go_at_call 45;exact Calls.kC (J.out _))))
    refine wpQuiet_nil ?_;intro t B;have D:=dK B;clear B Z d;have N:=Qh (A.out.trans (D.mono A.out.size));clear D;go_wp2;go_ret;exact⟨by rw[E.out];rfl,N.out⟩
  ·have pY:¬((k:Int)<(n:Int)):=by omega
   have E:Hid (r=true):=Qh (by
    rw[←T.out];rcases Nat.eq_zero_or_pos n with h0|h0
    ·have:xs=[]:=List.eq_nil_of_length_eq_zero (by rw[I.out,h0])
     rw[this];rfl
    ·rw[←GB,Qi,I.out,show n=k by omega]
     exact X.out)
   go_wp2;go_ret;exact⟨by rw[E.out];rfl,A.out⟩
theorem emitC:EmitC where
 pack w p n c xs hR hN:=Fi w p n c xs hR hN
 unpack w p n c bs q m d zs h1 h2 h3 h4 h5 h6 hN:=IF w p n c bs q m d zs h1 h2 h3 h4 h5 h6 hN
 sorted w p n c xs hM _:=Fk w p n c xs hM
end K1
namespace fb
open Mem
def hA:aq:=⟨[97],[98],49,0,0,0,0,[]⟩
def nA:av:=⟨[97],[],[97],48,0,0,0,0,[120]⟩
theorem Ru:bF [bL]=false:=by decide+kernel
theorem S3 {y:MP} (hb:ao w b 48 y.cs) (hB:dx w y):cN w (some ⟨b,0,none⟩) 1 [y]:=by
 refine⟨rfl,fun x A=>by rw[List.mem_singleton]at A;subst A;exact hB,fun _=>⟨b,0,rfl,hb.lt,fun i hi j B=>?_⟩⟩;obtain rfl:i=0:=by omega
 rw[show 0+8*0+j=j by omega];exact hb.cell j
theorem ve {y:NP} (hb:ao w b 52 y.cs) (hB:fa w y):bt w (some ⟨b,0,none⟩) 1 [y]:=by
 refine⟨rfl,fun x A=>by rw[List.mem_singleton]at A;subst A;exact hB,fun _=>⟨b,0,rfl,hb.lt,fun i hi j B=>?_⟩⟩;obtain rfl:i=0:=by omega
 rw[show 0+9*0+j=j by omega];exact hb.cell j
theorem E0 (w:World) (m:av) (h:m.body=[]):fa w ⟨m,none,0⟩:=by
 refine⟨?_,?_,?_⟩
 ·show cj w none m.body.length m.body
  rw[h];exact fun A=>absurd A (by decide)
 ·show m.body.length≤0
  rw[h];exact Qk _
 ·show(0:Nat)≤_
  decide
end fb
namespace K1
open Rec Mem fb tN
theorem M0:bF [nA]=true:=by decide+kernel
theorem JQ:eC [nA]=[nA.mem]:=by decide+kernel
theorem vn:(gT [nA]).length=2048:=by
 have A:cG nA.mem:=dZ (by decide+kernel);have h:=Co A (by decide+kernel);unfold gT;rw[JQ,kU,Qf,List.length_replicate,fu,Qf,h];decide
theorem EW (H:EmitC) (w:World) (hN:Need w):Calls Tryz.prog 9 #[] w fun e w'=>e=.returned (.bool true)∧Below w.heap.size w w':=by
 have kc:(convert 26 26 (.slice (some ⟨w.heap.size,0,none⟩) 1 1)).run Tryz.prog (w.alloc (.cells #[.int .u8 120] 5))=.ok (.slice (some ⟨w.heap.size,0,none⟩) 1 1) (w.alloc (.cells #[.int .u8 120] 5 (1,2))):=
  Lib.run_convert_bytes_const (P:=Tryz.prog) w 26 5 #[.int .u8 120] 1 1 Tryz.underlying26 Tryz.underlying5
 obtain⟨W1,B⟩:∃W1,(w.alloc (.cells #[.int .u8 120] 5 (1,2))).alloc (.cells #[.string ⟨#[97]⟩,.string ⟨#[]⟩,.string ⟨#[97]⟩,.int .u8 48,.int .i64 0,.int .i64 0,.int .i64 0,.int .i64 0,.slice (some ⟨w.heap.size,0,none⟩) 1 1] 52)=W1:=⟨_,rfl⟩
 have N:Below w.heap.size w W1:=by rw[←B];exact((Below.refl _ w).alloc (Qk _) _).alloc (by simp) _
 have y:ao W1 (w.heap.size+1) 52 (NP.cs ⟨nA,some ⟨w.heap.size,0,none⟩,1⟩):=by
  have:=ao.new (w.alloc (.cells #[.int .u8 120] 5 (1,2))) 52 (NP.cs ⟨nA,some ⟨w.heap.size,0,none⟩,1⟩);rw[World.size_alloc]at this;rw[←B];exact this
 have q:cj W1 (some ⟨w.heap.size,0,none⟩) 1 [120]:=fun _=>⟨w.heap.size,0,rfl,fun i hi=>by
  obtain rfl:i=0:=by omega
  rw[←B]
  have:(w.alloc (.cells #[.int .u8 120] 5 (1,2))).cell? ⟨w.heap.size,0,none⟩=some (.int .u8 120):=by
   unfold World.cell?;rw[heap_alloc_new];rfl
  exact(((Below.refl (w.heap.size+1) (w.alloc (.cells #[.int .u8 120] 5 (1,2)))).alloc (by simp) _).cell (p:=⟨w.heap.size,0,none⟩) (by show w.heap.size<w.heap.size+1;omega)).trans this⟩
 have E:=H.pack W1 (some ⟨w.heap.size+1,0,none⟩) 1 1 [⟨nA,some ⟨w.heap.size,0,none⟩,1⟩] ⟨ve y ⟨q,by show(1:Nat)≤1;decide,by show(1:Nat)≤maxLen;decide⟩,Qk _,by decide,fun x A=>by
  rw[List.mem_singleton.1 A];exact⟨by show(1:Nat)≤_;decide,by show(0:Nat)≤_;decide,by show(1:Nat)≤_;decide,by show(1:Nat)≤_;decide⟩⟩ (hN.below N)
 rw[show([⟨nA,some ⟨w.heap.size,0,none⟩,1⟩]:List NP).map NP.m=[nA]from rfl]at E;unfold jK at E;rw[vn]at E;have V:=Qh E;have HC:=Qh H;have Z:=Qh B;have bT:=Qh N;have L:=Qh hN;clear B N y q E H hN
 go_enter Tryz.func9,Tryz.ntmps9
 go_wp2_with fail
 rw[Z.out];refine V.out.mono ?_;rintro e w2 (⟨_,p2,c2,rfl,LQ,LR,c,z⟩|⟨hf,_⟩)
 rotate_left
 ·exact absurd M0 (by rw[hf];decide)
 have O:=Qh (bT.out.trans (z.mono bT.out.size));have hu:=HC.out.unpack w2 p2 2048 c2 (gT [nA]) none 0 0 [] c vn (by decide) (sf w2) rfl (by decide) (L.out.below O.out);unfold nE at hu;rw[qv M0]at hu;have X:=Qh hu;clear LQ LR c z hu V Z kc;go_wp2_with fail;refine X.out.mono ?_;rintro e w3 ⟨q3,d3,zs,rfl,I,Y,_,_,fN⟩;have eI:=Qh (O.out.trans (fN.mono O.out.size))
 have d:zs.length=1:=by
  have:=congrArg List.length I
  simpa using this
 obtain⟨z0,rfl⟩:=List.length_eq_one_iff.1 d;clear d;simp only[List.map_cons,List.map_nil,List.cons.injEq,and_true]at I;obtain⟨m0,p0,c0⟩:=z0;simp only at I;subst I;obtain⟨b,o,rfl,jP,hB,k0⟩:=Y.dX (i:=0) (by simp);have u:dW w3 b o ⟨nA,p0,c0⟩:=by simpa using k0
 obtain⟨W4,D⟩:∃W4,(w3.alloc (.cells #[.int .i64 0,.int .i64 0] 32)).alloc (.cells #[.string ⟨#[]⟩,.string ⟨#[]⟩,.string ⟨#[]⟩,.int .u8 0,.int .i64 0,.int .i64 0,.int .i64 0,.int .i64 0,.slice none 0 0] 52)=W4:=⟨_,rfl⟩
 have M:Below w3.heap.size w3 W4:=by rw[←D];exact((Below.refl _ _).alloc (Qk _) _).alloc (by simp) _
 have t:ao W4 w3.heap.size 32 #[.int .i64 0,.int .i64 0]:=by
  have A:=ao.new w3 32 #[.int .i64 0,.int .i64 0];rw[←D];exact A.below ((Below.refl _ _).alloc (Qk _) _) A.lt
 have r:ao W4 (w3.heap.size+1) 52 (NP.cs aN):=by
  have:=ao.new (w3.alloc (.cells #[.int .i64 0,.int .i64 0] 32)) 52 (NP.cs aN);rw[World.size_alloc]at this;rw[←D];exact this
 have R:=Qh (eI.out.trans (M.mono eI.out.size))
 have G:=HC.out.pack W4 (some ⟨w3.heap.size+1,0,none⟩) 1 1 [aN] ⟨ve r (E0 W4 bL rfl),Qk _,by decide,fun x A=>by
  rw[List.mem_singleton.1 A];exact⟨by show(0:Nat)≤_;decide,by show(0:Nat)≤_;decide,by show(0:Nat)≤_;decide,by show(0:Nat)≤_;decide⟩⟩ (L.out.below R.out)
 rw[show([aN]:List NP).map NP.m=[bL]from rfl]at G;unfold jK at G;have U:=Qh G;have f:=Qh D;have l:=Qh M;have zT:=Qh t;have W:=Qh (And.intro jP u);clear Y jP hB k0 u D M t r G X fN;go_wp2_with fail;rw[f.out];refine U.out.mono ?_;rintro e w5 (⟨hf,_⟩|⟨_,p5,c5,rfl,J⟩)
 ·exact absurd hf (by rw[Ru];decide)
 have g:Below w3.heap.size w3 w5:=l.out.trans (J.mono l.out.size);have f0:=(zT.out.below J zT.out.lt).cell 0;have s0:w5.cell? ⟨b,o+2,none⟩=some (.string ⟨#[97]⟩):=(W.out.2.below W.out.1 g).2.2.1;simp only[Qc,Qa]at f0;have T:=Qh (R.out.trans (J.mono R.out.size));have hs:=HC.out.sorted w5 none 0 0 [] ⟨sH w5 none,Qk _,by decide,by decide,fun x A=>by cases A⟩ (L.out.below T.out);have HS:=Qh hs;clear J g hs U f;go_wp2_with fail;refine HS.out.mono ?_;rintro e w6 ⟨rfl,uL⟩;have zR:=Qh (T.out.trans (uL.mono T.out.size));clear uL f0 s0;go_wp2;go_ret;exact⟨rfl,zR.out⟩
end K1
namespace Walk
open Rec Block Mem fb tN K1
theorem Fh (H:EmitC) (a0:Option Addr) (len0 cap0:Nat) (z0:List Int) (w:World) (w0:IsRow .u8 w a0 len0 cap0 z0) (b0:cap0*1≤140737488351232) (hN:Need w):
 Calls Tryz.prog 5 #[.slice a0 len0 cap0] w fun e w'=>e=.returned (.bool true)∧Below w.heap.size w w':=by
 obtain⟨nb,jP,fN,B⟩:=AJ w0;obtain⟨bs,Dv⟩:∃bs,bytesOf (z0.take len0)=bs:=⟨_,rfl⟩
 rw[Dv]at nb jP;have r:Hid (∀N,Below w.heap.size w N→Calls Tryz.prog 9 #[] N fun e w'=>e=.returned (.bool true)∧Below N.heap.size N w'):=Qh fun N h=>EW H N (hN.below h)
 have HC:=Qh H;have l:=Qh hN;have X:=Qh (H.unpack w a0 len0 cap0 bs none 0 0 [] nb jP (by omega) (sf w) rfl (by decide) hN);unfold nE at X;obtain⟨E,hE⟩:∃E,(dR bs).2.1=E:=⟨_,rfl⟩
 obtain⟨A,hA⟩:∃A:Int,(((dR bs).2.2:Nat):Int)=A:=⟨_,rfl⟩
 obtain⟨T,hT⟩:∃T,(dR bs).1=T:=⟨_,rfl⟩
 have HG:Hid (E=0→bF T=true):=Qh (fun h=>by rw[←hT];exact zN (hE.trans h));rw[hE,hA,hT]at X;clear hN H w0 b0 nb jP fN B Dv hE hA hT
 go_enter Tryz.func5,Tryz.ntmps5
 by_cases OO:(40000:Int)<(len0:Int)
 ·go_wp2_with fail
  refine(r.out w (Below.refl _ _)).mono ?_;rintro e I ⟨rfl,L⟩;have V:=Qh L;clear L;go_wp2;go_ret;exact⟨rfl,V.out⟩
 ·go_wp2_with fail
  refine X.out.mono ?_;rintro e I ⟨q2,d2,zs,rfl,hz,L1,LQ,LR,L⟩;obtain⟨w3,d⟩:∃w3,I.alloc (.cells #[.int .i64 E,.int .i64 A] 32)=w3:=⟨_,rfl⟩
  have z:Below I.heap.size I w3:=by rw[←d];exact(Below.refl _ _).alloc (Qk _) _
  have wI:ao w3 I.heap.size 32 #[.int .i64 E,.int .i64 A]:=by rw[←d];exact ao.new I _ _
  have M:=Qh (L.trans (z.mono L.size));have XA:=Qh (L1.below z);have D:=Qh (And.intro hz (And.intro LQ LR));have e0:w3.cell? ⟨I.heap.size,0,none⟩=some (.int .i64 E):=wI.cell 0;clear hz L1 LQ LR L z wI X
  by_cases o:E=0
  ·subst o
   have J:=Qh (HG.out rfl);go_upto_region 4 with fail;clear d;have f:=HC.out.pack w3 q2 zs.length d2 zs ⟨XA.out,D.out.2.1,D.out.2.2,fun x hx=>rU J.out x.m (by rw[←D.out.1];exact List.mem_map_of_mem hx)⟩ (l.out.below M.out);rw[D.out.1]at f;unfold jK at f;have HP:=Qh f;clear f;go_wp2_with fail;refine HP.out.mono ?_;rintro e U (⟨_,p4,c4,rfl,VZ,OV,Y,B⟩|⟨hg,_⟩)
   rotate_left
   ·exact absurd J.out (by rw[hg];decide)
   have mN:=Qh (M.out.trans (B.mono M.out.size));obtain⟨k,hk⟩:∃k,(gT T).length=k:=⟨_,rfl⟩
   have jI:=Mv J.out;rw[hk]at jI Y⊢;have hu:=HC.out.unpack U p4 k c4 (gT T) none 0 0 [] Y hk (by omega) (sf U) rfl (by decide) (l.out.below mN.out);unfold nE at hu;rw[qv J.out]at hu;have XL:=Qh hu;have Uw:=Qh Y;have g:=Qh hk;have UJ:=Qh (XA.out.below B);clear VZ OV Y B hu HP jI hk e0;go_wp2_with fail;refine XL.out.mono ?_;rintro e O ⟨q5,d5,us,rfl,b,j5,y,q,nU⟩;obtain⟨w6,W⟩:∃w6,O.alloc (.cells #[.int .i64 0,.int .i64 0] 32)=w6:=⟨_,rfl⟩
   have Vr:Below O.heap.size O w6:=by rw[←W];exact(Below.refl _ _).alloc (Qk _) _
   have Yd:ao w6 O.heap.size 32 #[.int .i64 0,.int .i64 0]:=by rw[←W];exact ao.new O _ _
   have c:Below U.heap.size U w6:=nU.trans (Vr.mono nU.size);have t:=Qh (mN.out.trans (c.mono mN.out.size));have Ux:=Qh (Uw.out.below c);have Q0:=Qh (UJ.out.below c);have C9:=Qh (j5.below Vr);have ZQ:=Qh (And.intro b (And.intro y q));have XO:=Qh Yd;have Z:=HC.out.pack w6 q5 us.length d5 us ⟨C9.out,y,q,fun x hx=>rU J.out x.m (by rw[←b];exact List.mem_map_of_mem hx)⟩ (l.out.below t.out);rw[b]at Z;unfold jK at Z;have Tz:=Qh Z;clear b j5 y q nU Vr Yd c Z XL;have Hd:=Qh W;clear W;go_upto_region 8 with fail;rw[Hd.out];go_wp2_with fail;refine Tz.out.mono ?_;rintro e w7 (⟨_,p7,c7,rfl,V2,V3,p,R⟩|⟨hg,_⟩)
   rotate_left
   ·exact absurd J.out (by rw[hg];decide)
   rw[g.out]at p⊢;have u:=Qh (t.out.trans (R.mono t.out.size));have QO:=Qh (And.intro (Ux.out.below R) p);have ZD:=Qh (Q0.out.below R);have U4:=Qh (C9.out.below R);have H5:=Qh (XO.out.below R XO.out.lt);clear V2 V3 p R Tz;go_wp2_with fail;refine(r.out _ u.out).mono ?_;rintro e w8 ⟨rfl,G⟩;have K3:=Qh (u.out.trans (G.mono u.out.size));have f0:w8.cell? ⟨O.heap.size,0,none⟩=some (.int .i64 0):=(H5.out.below G H5.out.lt).cell 0;have k1:Sem.run Tryz.prog (convert 26 9 (.slice p4 k c4)) w8=.ok (.string (str (gT T))) w8:=cK (QO.out.1.below G) g.out 26 5 9 Tryz.underlying26 Tryz.underlying5 Tryz.underlying9 c4;have k2:Sem.run Tryz.prog (convert 26 9 (.slice p7 k c7)) w8=.ok (.string (str (gT T))) w8:=cK (QO.out.2.below G) g.out 26 5 9 Tryz.underlying26 Tryz.underlying5 Tryz.underlying9 c7;have HS:=Qh (Cz q2 q5 zs.length us.length d2 d5 zs us w8 (Nat.le_trans D.out.2.1 D.out.2.2) (ZD.out.below G) (U4.out.below G));rw[decide_eq_true (by rw[D.out.1,ZQ.out.1])]at HS;obtain⟨ds,Yo⟩:∃ds,str (gT T)=ds:=⟨_,rfl⟩
   rw[Yo]at k1 k2;clear G Yo;go_wp2_with fail;refine HS.out.mono ?_;rintro e w9 ⟨rfl,KQ⟩;have V:=Qh (K3.out.trans (KQ.mono K3.out.size));clear KQ f0 k1 k2;go_wp2;go_ret;exact⟨rfl,V.out⟩
  ·have cE:(E != 0)=true:=by simpa using o
   clear o;go_upto_region 4 with fail;clear d;go_wp2_with fail;refine(r.out _ M.out).mono ?_;rintro e U ⟨rfl,B⟩;have V:=Qh (M.out.trans (B.mono M.out.size));clear B e0;go_wp2;go_ret;exact⟨rfl,V.out⟩
theorem emitOnce (a0:Option Addr) (len0 cap0:Nat) (z0:List Int) (w:World) (w0:IsRow .u8 w a0 len0 cap0 z0) (b0:cap0*1≤140737488351232) (hN:Need w):
 Calls Tryz.prog 5 #[.slice a0 len0 cap0] w fun e w'=>e=.returned (.bool true)∧Below w.heap.size w w':=Fh emitC a0 len0 cap0 z0 w w0 b0 hN
end Walk
end Go.Proofs.YtdhibldkldlfpaaGreatDoor
