/- Merged. -/
import Derived.Test.YtdhibldkldlfpaaGreatDoorEmitPacksX27
import Derived.StillTailTactics
namespace Go.Proofs.YtdhibldkldlfpaaGreatDoor
set_option linter.unusedVariables false
set_option maxHeartbeats 8000000
set_option maxRecDepth 100000
namespace Head
open Go.ChangeShapes Go.WideShapes Go.ChangeAt Go.RowKit Base cf cN Hp Go.Proofs.YtdhibldkldlfpaaGreatDoor.Mp Fp Go.Proofs.YtdhibldkldlfpaaGreatDoor.Field Go.Lib
variable {cs:List UInt8} {i k:Nat} {own:Nat→List UInt8}
def QX (l:List UInt8) (k:Nat):Bool:=!(l.take k).contains 0
theorem C8 (l:List UInt8):QX l 0=true:=rfl
theorem lH {l:List UInt8} (hk:k<l.length):QX l (k+1)=(QX l k&&l.getD k 0 != 0):=by
 unfold QX;rw[List.take_add_one,Qd hk];have e:l.getD k 0=l[k]:=by simp[List.getD,hk]
 rw[e];simp only[Option.toList_some,List.contains_append,Bool.not_or]
 congr 1
 simp only[List.contains_cons,List.contains_nil,Bool.or_false,bne];rw[show((0:UInt8)==l[k])=(l[k]==0)from Bool.beq_comm]
theorem IV (l:List UInt8):QX l l.length=!l.contains 0:=by unfold QX;rw[List.take_length]
def nG:Nat→Nat
 |0=>1|1=>2|2=>3|3=>5|_=>4
theorem SS (hk:k<5):1≤nG k∧nG k≤5∧fF (nG k)+aj (nG k)≤512∧2≤aj (nG k)∧aj (nG k)≤12:=by
 rcases(show k=0∨k=1∨k=2∨k=3∨k=4 by omega)with rfl|rfl|rfl|rfl|rfl<;>decide
theorem Py {P:Nat→Prop} (h:∀k,k<5→P (nG k)):∀i,1≤i→i≤5→P i:=fun i h1 A=>by
 rcases(show i=1∨i=2∨i=3∨i=4∨i=5 by omega)with rfl|rfl|rfl|rfl|rfl
 ·exact h 0 (by omega)
 ·exact h 1 (by omega)
 ·exact h 2 (by omega)
 ·exact h 4 (by omega)
 ·exact h 3 (by omega)
theorem C9 (h:aq) (hk:k<5):(#[Value.int .i64 h.mode,.int .i64 h.uid,.int .i64 h.gid,.int .i64 h.time,.int .i64 h.size]:Array Value)[k]? =some (.int .i64 (ia h (nG k))):=by
 rcases(show k=0∨k=1∨k=2∨k=3∨k=4 by omega)with rfl|rfl|rfl|rfl|rfl<;>rfl
theorem Ig (hk:k<5):(#[Value.int .i64 100,.int .i64 108,.int .i64 116,.int .i64 136,.int .i64 124]:Array Value)[k]? =some (.int .i64 (fF (nG k))):=by
 rcases(show k=0∨k=1∨k=2∨k=3∨k=4 by omega)with rfl|rfl|rfl|rfl|rfl<;>rfl
theorem Ji (hk:k<5):(#[Value.int .i64 8,.int .i64 8,.int .i64 8,.int .i64 12,.int .i64 12]:Array Value)[k]? =some (.int .i64 (aj (nG k))):=by
 rcases(show k=0∨k=1∨k=2∨k=3∨k=4 by omega)with rfl|rfl|rfl|rfl|rfl<;>rfl
theorem OK (b k:Nat) (hk:k<5) (w:World):(Instr.indexAt 23 (.slice (some ⟨b,0,none⟩) 5 5) (.int .i64 (k:Int))).run Tryz.prog w=.ok (.pointer (some ⟨b,k,none⟩)) w:=by
 have A:=Tryz.underlying23;have f5:=Tryz.sizeOf3;have h1:(k:Int)<5:=by omega
 go_simp
theorem Ui (w:World) (a:Addr) (k:Int) (h:w.cell? a=some (.int .i64 k)):(Instr.loadAt 3 (.pointer (some a))).run Tryz.prog w=.ok (.int .i64 k) w:=by
 go_simp
def kt (h:aq):Nat→Nat→List UInt8
 |0=>ey
 |k+1=>pR (kt h k) (nG k) (xT h (nG k))
theorem rT {h:aq}:∀{k:Nat},(∀j,j<k→(dJ (ia h (nG j)) (aj (nG j))).isSome=true)→Fits (kt h k)
 |0,_=>ko
 |k+1,hs=>(rT fun j A=>hs j (by omega)).pR (fB (hs k (by omega)))
theorem ly {w:World} {g:Nat} (hF:Fits own) (hi:i<11) (hl:cs.length≤aj i) (hr:dE w g (splice (ba own) (fF i) cs)):dE w g (ba (pR own i (cd (own i) cs))):=by
 rw[iR hF hi hl]at hr;exact hr
theorem fH (hF:Fits own) (hl:cs.length≤aj i):Fits (pR own i (cd (own i) cs)):=
 hF.pR (by rw[nL (by rw[hF i];exact hl)];exact hF i)
theorem vn (L:List UInt8) (i j:Nat) (x:UInt8) (hi:i<L.length):(L.set i x).getD j 0=if i=j then x else L.getD j 0:=by
 simp only[List.getD,List.getElem?_set]
 by_cases h:i=j
 ·subst h;simp[hi]
 ·simp[h]
theorem GR (L:List UInt8) (i:Nat) (x:UInt8) (h:i<L.length):L.set i x=splice L i [x]:=by
 refine ng (by rw[List.length_set,length_splice _ _ _ (by simp;omega)]) fun j _=>?_
 rw[vn _ _ _ _ h,kl _ _ _ _ (by simp;omega)]
 by_cases A:i=j
 ·subst A;simp
 ·rw[if_neg A,if_neg (by simp;omega)]
theorem DJ (L cs:List UInt8) (off:Nat) (x:UInt8) (h:off+cs.length+1≤L.length):(splice L off cs).set (off+cs.length) x=splice L off (cs++[x]):=by
 have B:(splice L off cs).length=L.length:=length_splice _ _ _ (by omega);refine ng (by rw[List.length_set,B,length_splice _ _ _ (by simp;omega)]) fun j _=>?_
 rw[vn _ _ _ _ (by rw[B];omega),kl _ _ _ _ (by omega),kl _ _ _ _ (by simp;omega)]
 by_cases D:off+cs.length=j
 ·subst D
  rw[if_pos rfl,if_pos (by simp)];simp[List.getD]
 ·rw[if_neg D]
  by_cases A:off≤j∧j<off+cs.length
  ·rw[if_pos A,if_pos (by simp;omega)]
   simp only[List.getD];rw[List.getElem?_append_left (by omega)]
  ·rw[if_neg A,if_neg (by simp;omega)]
def Fe (h:aq) (p s:List UInt8):Nat→List UInt8:=
 let a:=kt h 5
 let b:=pR a 0 (cd (a 0) s)
 let c:=pR b 10 (cd (b 10) p)
 let d:=pR c 8 (cd (c 8) h.link)
 let e:=pR d 9 (cd (d 9) dq)
 pR e 7 (cd (e 7) [h.kind])
theorem Gg (h:aq):kt h 5 0=ey 0∧kt h 5 6=ey 6∧kt h 5 7=ey 7∧kt h 5 8=ey 8∧kt h 5 9=ey 9∧kt h 5 10=ey 10∧∀i,1≤i→i≤5→kt h 5 i=xT h i:=by
 refine⟨rfl,rfl,rfl,rfl,rfl,rfl,fun i h1 A=>?_⟩;rcases(show i=1∨i=2∨i=3∨i=4∨i=5 by omega)with rfl|rfl|rfl|rfl|rfl<;>rfl
theorem Ks (h:aq) (p s:List UInt8) (hF:Fits (kt h 5)) (hs:s.length≤100) (hp:p.length≤155) (hl:h.link.length≤100) (hn:eX h=true):Fe h p s=fq h p s:=by
 obtain⟨M,N,O,R,T,D,B⟩:=Gg h;obtain⟨G,H,I,J,L,E,A⟩:=mB h p s
 have hf:Fits (Fe h p s):=by
  unfold Fe;exact fH (fH (fH (fH (fH hF (i:=0) hs) (i:=10) hp) (i:=8) hl) (i:=9) (show dq.length≤aj 9 by decide)) (i:=7) (show 1≤aj 7 by decide)
 refine vg hf (oL hs hp hl hn) fun i hi=>?_
 have z:∀j,ey j=List.replicate (aj j) 0:=fun _=>rfl
 rcases kB hi with rfl|rfl|rfl|rfl|rfl|rfl|rfl|rfl|rfl|rfl|rfl
 ·rw[G,←jH]
  show cd (kt h 5 0) s=_;rw[M];rfl
 ·rw[A 1 (by omega) (by omega)];exact B 1 (by omega) (by omega)
 ·rw[A 2 (by omega) (by omega)];exact B 2 (by omega) (by omega)
 ·rw[A 3 (by omega) (by omega)];exact B 3 (by omega) (by omega)
 ·rw[A 4 (by omega) (by omega)];exact B 4 (by omega) (by omega)
 ·rw[A 5 (by omega) (by omega)];exact B 5 (by omega) (by omega)
 ·rw[H];exact N
 ·rw[I]
  show cd (kt h 5 7) [h.kind]=_;rw[O];rfl
 ·rw[J,←jH]
  show cd (kt h 5 8) h.link=_;rw[R];rfl
 ·rw[L]
  show cd (kt h 5 9) dq=_;rw[T];rfl
 ·rw[E,←jH]
  show cd (kt h 5 10) p=_;rw[D];rfl
theorem zj (h:aq) (IF:∀i,(Lit.int .i64 (ia h i)).wf=true) (Bj:h.name.length≤140737488351232) (vF:h.link.length≤140737488351232) (w:World):
 Calls Tryz.prog 93 #[.agg #[.string (str h.name),.string (str h.link),.int .u8 (h.kind.toNat:Int),.int .i64 h.mode,.int .i64 h.uid,.int .i64 h.gid,.int .i64 h.time,.int .i64 h.size,.bool h.fL]] w (uH w (eI h)):=by
 obtain⟨nm,MS⟩:∃nm,nm=str h.name:=⟨_,rfl⟩
 obtain⟨A,Ad⟩:∃A,A=str h.link:=⟨_,rfl⟩
 obtain⟨N,mf⟩:∃N:Int,N=(h.kind.toNat:Int):=⟨_,rfl⟩
 have HNM:=Qh MS;have mP:Hid (nm.data.toList=h.name):=Qh (by rw[MS,aU]);have Hj:Hid (A.data.toList=h.link):=Qh (by rw[Ad,aU]);have W:Hid (nm.size=h.name.length):=Qh (by rw[MS,ak]);have m:Hid (A.size=h.link.length):=Qh (by rw[Ad,ak]);have Zw:nm.size≤140737488351232:=by rw[W.out];exact Bj
 have hlz:A.size≤140737488351232:=by rw[m.out];exact vF
 have WV:=Qh mf;rw[←MS,←Ad,←mf];have Rt:=Qh IF;obtain⟨i0,QM,eo,dH,dM⟩:=info_parts qw;have gT:=Qh QM;have jr:=Qh eo;have ib:=Qh dH;have js:=Qh dM;clear QM eo dH dM;obtain⟨gb,FA⟩:∃gb,gb=w.heap.size:=⟨_,rfl⟩
 obtain⟨w0,IE⟩:∃w0,w0=w.alloc (.cells #[.string nm,.string A,.int .u8 N,.int .i64 h.mode,.int .i64 h.uid,.int .i64 h.gid,.int .i64 h.time,.int .i64 h.size,.bool h.fL] 66):=⟨_,rfl⟩
 have HW:Hid (Kept ai w w0):=Qh (by rw[IE];exact(Kept.refl _ _).alloc _);have iU:Hid (w0.heap[gb]? =some (.cells #[.string nm,.string A,.int .u8 N,.int .i64 h.mode,.int .i64 h.uid,.int .i64 h.gid,.int .i64 h.time,.int .i64 h.size,.bool h.fL] 66 (0,0))):=Qh (by rw[IE,FA];exact heap_alloc_new _ _);have Uy:Hid (w.heap.size≤gb):=Qh (by omega);clear IF MS Ad mf Bj vF
 go_enter Tryz.func93,Tryz.ntmps93
 go_wp2_with fail
 rw[←IE,←FA];clear IE FA;refine(Dp nm w0 Zw).mono ?_;rintro e w1 ⟨rfl,ej⟩;rw[mP.out];have z:=Qh (HW.out.trans ej);have c1:=bJ (ej.some_ iU.out id);have cr:=Qh (ej.some_ iU.out id);clear ej
 cases hcut:fR h.name with
 |none=>
  rw[om hcut];have H:=Qh (Dl hcut);clear hcut;go_wp2;go_ret2;exact⟨z.out,Or.inr ⟨H.out,rfl⟩⟩
 |some ps=>
  obtain⟨p,s⟩:=ps;rw[jO hcut];have uC:=Qh hcut;have u:=Qh (oh hcut);clear hcut;have bad:gX h=true→eI h=none:=lI;have Jm:=Qh bad;clear bad
  by_cases MR:100<A.size
  ·have H:Hid (eI h=none):=Qh (Jm.out (by
    have h1:100<h.link.length:=by rw[←m.out];exact MR
    unfold gX;simp[h1]))
   go_wp2;go_ret2;exact⟨z.out,Or.inr ⟨H.out,rfl⟩⟩
  ·cases pT:h.fL with
   |true=>
    have H:Hid (eI h=none):=Qh (Jm.out (by unfold gX;rw[pT];rfl));rw[pT]at c1;go_wp2;go_ret2;exact⟨z.out,Or.inr ⟨H.out,rfl⟩⟩
   |false=>
    have WQ:=Qh pT;rw[pT]at c1;clear pT
    by_cases hz:N=0
    ·have H:Hid (eI h=none):=Qh (Jm.out (by
      have h1:h.kind=0:=UInt8.toNat.inj (show h.kind.toNat=0 by have:=WV.out;omega)
      unfold gX;rw[h1];simp))
     have pb:(N==0)=true:=by rw[hz];rfl
     go_wp2;go_ret2;exact⟨z.out,Or.inr ⟨H.out,rfl⟩⟩
    ·have pb:(N==0)=false:=by simpa using hz
     have o5:Hid (gX h=(h.name.contains 0||h.link.contains 0)):=Qh (by
      have h1:(h.kind==0)=false:=by
       rw[beq_eq_false_iff_ne];intro e;exact hz (by rw[WV.out,e];rfl)
      have h2:¬100<h.link.length:=by rw[←m.out];exact MR
      unfold gX;rw[WQ.out,h1]
      simp[h2])
     go_wp2_with fail
     clear pb
     go_loop [6,7] (fun ok i=>∃(k:Nat) (q:Bool),k≤nm.size∧i=.int .i64 k∧ok=.bool q∧Hid (q=QX h.name k)) (fun _ i=>nm.size - (RowKit.intOf i).toNat)
     case atStart=>exact⟨0,_,Nat.zero_le _,rfl,rfl,Qh (by rw[C8])⟩
     case round=>
      obtain⟨k,q,hk,rfl,rfl,M⟩:=hrel
      by_cases D:k<nm.size
      ·have D8:Hid (nm[k]=h.name.getD k 0):=Qh (by rw[←s_at nm k D,mP.out])
       have d:Hid (k<h.name.length):=Qh (by rw[←W.out];exact D)
       cases q with
       |false=>
        go_wp2
        go_round
        case rel=>exact⟨k+1,false,by omega,by go_num,rfl,Qh (by rw[lH d.out,←M.out];rfl)⟩
        case measure=>simp[RowKit.intOf];omega
       |true=>
        by_cases hc:nm[k]=0
        ·have R:(((nm[k]).toNat:Int)==0)=true:=by rw[hc];rfl
         have HC:Hid ((h.name.getD k 0 != 0)=false):=Qh (by rw[←D8.out,hc];rfl);go_wp2
         go_round
         case rel=>exact⟨k+1,false,by omega,by go_num,(by first|rfl|(show Value.bool (!(((nm[k]).toNat:Int)==0))=Value.bool false;rw[R];rfl)),Qh (by rw[lH d.out,HC.out];simp)⟩
         case measure=>simp[RowKit.intOf];omega
        ·have R:(((nm[k]).toNat:Int)==0)=false:=by
          rw[beq_eq_false_iff_ne];intro e;exact hc (UInt8.toNat.inj (show(nm[k]).toNat=0 by omega))
         have HC:Hid ((h.name.getD k 0 != 0)=true):=Qh (by rw[←D8.out];simpa using hc);go_wp2
         go_round
         case rel=>exact⟨k+1,true,by omega,by go_num,(by show Value.bool (!(((nm[k]).toNat:Int)==0))=Value.bool true;rw[R];rfl),Qh (by rw[lH d.out,HC.out,Bool.and_true];exact M.out)⟩
         case measure=>simp[RowKit.intOf];omega
      ·have eV:Hid (k=h.name.length):=Qh (by rw[←W.out];omega)
       have pU:Hid (q=QX h.name h.name.length):=Qh (by rw[M.out,eV.out]);clear M eV;go_wp2_with fail;clear D hk
       go_loop [6,8] (fun ok i=>∃(k:Nat) (q:Bool),k≤A.size∧i=.int .i64 k∧ok=.bool q∧Hid (q=(QX h.name h.name.length&&QX h.link k))) (fun _ i=>A.size - (RowKit.intOf i).toNat)
       case atStart=>exact⟨0,_,Nat.zero_le _,rfl,rfl,Qh (by rw[C8,Bool.and_true];exact pU.out)⟩
       case round=>
        obtain⟨k,q,hk,rfl,rfl,M⟩:=hrel
        by_cases D:k<A.size
        ·have D8:Hid (A[k]=h.link.getD k 0):=Qh (by rw[←s_at A k D,Hj.out])
         have d:Hid (k<h.link.length):=Qh (by rw[←m.out];exact D)
         cases q with
         |false=>
          go_wp2
          go_round
          case rel=>exact⟨k+1,false,by omega,by go_num,rfl,Qh (by rw[lH d.out,←Bool.and_assoc,←M.out];rfl)⟩
          case measure=>simp[RowKit.intOf];omega
         |true=>
          by_cases hc:A[k]=0
          ·have R:(((A[k]).toNat:Int)==0)=true:=by rw[hc];rfl
           have HC:Hid ((h.link.getD k 0 != 0)=false):=Qh (by rw[←D8.out,hc];rfl);go_wp2
           go_round
           case rel=>exact⟨k+1,false,by omega,by go_num,(by first|rfl|(show Value.bool (!(((A[k]).toNat:Int)==0))=Value.bool false;rw[R];rfl)),Qh (by rw[lH d.out,HC.out];simp)⟩
           case measure=>simp[RowKit.intOf];omega
          ·have R:(((A[k]).toNat:Int)==0)=false:=by
            rw[beq_eq_false_iff_ne];intro e;exact hc (UInt8.toNat.inj (show(A[k]).toNat=0 by omega))
           have HC:Hid ((h.link.getD k 0 != 0)=true):=Qh (by rw[←D8.out];simpa using hc);go_wp2
           go_round
           case rel=>exact⟨k+1,true,by omega,by go_num,(by show Value.bool (!(((A[k]).toNat:Int)==0))=Value.bool true;rw[R];rfl),Qh (by rw[lH d.out,HC.out,Bool.and_true];exact M.out)⟩
           case measure=>simp[RowKit.intOf];omega
        ·have eV:Hid (k=h.link.length):=Qh (by rw[←m.out];omega)
         have xu:Hid (q=!gX h):=Qh (by
          rw[M.out,eV.out,IV,IV,o5.out,Bool.not_or])
         go_wp2_with (at_make;refine wpList_make_full _ rfl _ _ 26 rfl w1.heap.size 5 i0 (.int .u8 0) 1 Tryz.underlying26 gT.out jr.out ib.out .i64 .i64 _ _ 512 rfl rfl rfl rfl (by rw[js.out];omega) (by decide) (Qk _) ?_)
         intro w2 aH aS;have bC:=DC aH;rw[←sF]at bC;have dr:Kept ai w1 w2:=(Kept.refl ai w1).grown aS (fun k hk=>by cases hk);obtain⟨g,hg⟩:∃g,g=w1.heap.size:=⟨_,rfl⟩
         rw[←hg]at bC⊢;have tF:=Qh bC;have gU:=Qh (z.out.trans dr);have MY:Hid (w.heap.size≤g):=Qh (by have:=z.out.size;omega);have Uz:Hid (gb≠g):=Qh (by have:=(Array.getElem?_eq_some_iff.1 cr.out).1;omega);have bT:=Qh (dr.some_ cr.out id);have c2:=bJ bT.out;rw[WQ.out]at c2;have Tz:=Qh xu.out;clear aH aS bC dr hg c1 D hk eV M xu;obtain⟨B,f⟩:∃B,B=w2.heap.size:=⟨_,rfl⟩
         obtain⟨w3,t⟩:∃w3,w3=((w2.alloc (.cells #[.int .i64 h.mode,.int .i64 h.uid,.int .i64 h.gid,.int .i64 h.time,.int .i64 h.size] 3)).alloc (.cells #[.int .i64 100,.int .i64 108,.int .i64 116,.int .i64 136,.int .i64 124] 3)).alloc (.cells #[.int .i64 8,.int .i64 8,.int .i64 8,.int .i64 12,.int .i64 12] 3):=⟨_,rfl⟩
         have dt:Kept ai w2 w3:=by rw[t];exact(((Kept.refl ai w2).alloc _).alloc _).alloc _
         have HA1:Hid (w3.heap[B]? =some (.cells #[.int .i64 h.mode,.int .i64 h.uid,.int .i64 h.gid,.int .i64 h.time,.int .i64 h.size] 3 (0,0))):=Qh (by
          rw[t,f]
          exact((((Kept.refl ai _).alloc _).alloc _).some_ (heap_alloc_new w2 _) id))
         have HA2:Hid (w3.heap[B+1]? =some (.cells #[.int .i64 100,.int .i64 108,.int .i64 116,.int .i64 136,.int .i64 124] 3 (0,0))):=Qh (by
          have h1:=((Kept.refl ai _).alloc (.cells #[.int .i64 8,.int .i64 8,.int .i64 8,.int .i64 12,.int .i64 12] 3)).some_ (heap_alloc_new (w2.alloc (.cells #[.int .i64 h.mode,.int .i64 h.uid,.int .i64 h.gid,.int .i64 h.time,.int .i64 h.size] 3)) (.cells #[.int .i64 100,.int .i64 108,.int .i64 116,.int .i64 136,.int .i64 124] 3)) id;rw[←t,World.size_alloc,←f]at h1
          exact h1)
         have HA3:Hid (w3.heap[B+2]? =some (.cells #[.int .i64 8,.int .i64 8,.int .i64 8,.int .i64 12,.int .i64 12] 3 (0,0))):=Qh (by
          have h1:=heap_alloc_new ((w2.alloc (.cells #[.int .i64 h.mode,.int .i64 h.uid,.int .i64 h.gid,.int .i64 h.time,.int .i64 h.size] 3)).alloc (.cells #[.int .i64 100,.int .i64 108,.int .i64 116,.int .i64 136,.int .i64 124] 3)) (.cells #[.int .i64 8,.int .i64 8,.int .i64 8,.int .i64 12,.int .i64 12] 3);rw[←t,World.size_alloc,World.size_alloc,←f]at h1
          exact h1)
         have re:=Qh (gU.out.trans dt);have Xc:=Qh (tF.out.kept dt id);have fV:=Qh (dt.some_ bT.out id);have r:Hid (g<B):=Qh (by rw[f];exact tF.out.lt);clear dt;go_wp2_with fail;rw[←t,←f];clear t f c2
         go_loopw [13] (fun i wr=>∃k:Nat,k≤5∧i=.int .i64 k∧Hid (Kept (ay g) w3 wr)∧Hid (dE wr g (ba (kt h k)))∧Hid (∀j,j<k→(dJ (ia h (nG j)) (aj (nG j))).isSome=true)∧Hid (k=0∨q=true)) (fun i _=>5 - (RowKit.intOf i).toNat)
         case atStart=>exact⟨0,by omega,rfl,Qh (Kept.refl _ _),Xc,Qh (fun j hj=>absurd hj (by omega)),Qh (Or.inl rfl)⟩
         case round=>
          obtain⟨k,hk,rfl,I,G,E,ZA⟩:=hrel
          by_cases D:k<5
          ·have ca:=bJ (I.out.some_ HA1.out (fun e=>by have e:B=g:=e;have:=r.out;omega)) k
           rw[C9 h D]at ca;have cb:=bJ (I.out.some_ HA2.out (fun e=>by have e:B+1=g:=e;have:=r.out;omega)) k;rw[Ig D]at cb;have cc:=bJ (I.out.some_ HA3.out (fun e=>by have e:B+2=g:=e;have:=r.out;omega)) k;rw[Ji D]at cc;obtain⟨yH,yI,XF,ho4,VY⟩:=SS D;obtain⟨i,hi⟩:∃i,i=nG k:=⟨_,rfl⟩
           rw[←hi]at ca cb cc yH yI XF ho4 VY;have HI:=Qh hi;clear hi;go_wp2_with fail;refine wp_region_any (by kernel_rfl) (DE (w3:=wr) (.slice (some ⟨B,0,none⟩) 5 5) (.slice (some ⟨B+1+1,0,none⟩) 5 5) (k:Int) ⟨B,k,none⟩ ⟨B+2,k,none⟩ (ia h i) (aj i:Int) (Yq (dJ (ia h i) (aj i))) (show 152≤152 from Qk 152) rfl rfl rfl (fun w=>OK B k D w) (fun w=>OK (B+2) k D w) (fun w hk=>Ui w _ _ (bJ (hk.some_ (I.out.some_ HA1.out (fun e=>by have e:B=g:=e;have:=r.out;omega)) id) k |>.trans (by rw[C9 h D,HI.out]))) (fun w hk=>Ui w _ _ (bJ (hk.some_ (I.out.some_ HA3.out (fun e=>by have e:B+2=g:=e;have:=r.out;omega)) id) k |>.trans (by rw[Ji D,HI.out]))) (fun w hk=>PW _ _ w (Rt.out i) (WalkArith.wf_i64 (by omega))) ?_);intro v y w4 hp c;have yf:=Qh c;have cb4:=bJ (c.some_ (I.out.some_ HA2.out (fun e=>by have e:B+1=g:=e;have:=r.out;omega)) id) k;rw[Ig D,←HI.out]at cb4;have xq:=Qh (G.out.kept c id);clear c ca cb cc;simp only[Exit.then]
           apply_assumption
           rcases hp with⟨l,sp,sc,hl,rfl,rfl,VS,nt⟩|⟨hl,rfl,rfl⟩
           ·cases q with
            |false=>
             have H:Hid (eI h=none):=Qh (Jm.out (by have:=Tz.out;revert this;cases gX h<;>simp));go_wp2;go_ret2
             exact⟨(re.out.then I.out (fun i hi=>Or.inl (by
              have h1:i=g:=hi;rw[h1]
              exact MY.out))).trans yf.out,Or.inr ⟨H.out,rfl⟩⟩
            |true=>
             have TD:Hid ((dJ (ia h i) (aj i)).isSome=true):=Qh (by rw[hl];rfl);have HNB:Hid (xT h i=bytesOf l):=Qh (oH hl);have VT:l.length=aj i:=by rw[←bytesOf_length,←HNB.out];exact fB TD.out
             have Eg:=Qh nt;have HFK:=Qh (rT E.out);have V:Hid ((bytesOf l).length=Nat.min (aj i) (512 - fF i)):=Qh (by rw[bytesOf_length,VT];exact(Nat.min_eq_left (by omega)).symm);have ad2:Hid (cK w4 sp (bytesOf l).length (bytesOf l)):=Qh (by rw[bytesOf_length];exact Eg.out);have Q7:Hid (fF i+(bytesOf l).length≤(ba (kt h k)).length):=Qh (by rw[bytesOf_length,aI];omega);have hat:(fF i:Int)≤512:=by omega
             clear hl nt
             go_wp2_with (first|(refine q5 rfl _ _ 26 26 rfl 5 Tryz.underlying26 mi (some ⟨g,fF i,none⟩) sp (512 - fF i) (512 - fF i) (aj i) sc rfl rfl g (fF i) (ba (kt h k)) xq.out (bytesOf l) V.out (fun _=>by simp) ad2.out Q7.out ?_;intro w5 O fS oY)|go_in)
             have Jr:=Qh fS
             have yh:Hid (dE w5 g (ba (kt h (k+1)))):=Qh (by
              have h1:=O.out;rw[iR HFK.out (by omega) (by rw[bytesOf_length,VT];exact Qk _),gu (by rw[bytesOf_length,VT,HFK.out i]),←HNB.out]at h1;rw[kt,←HI.out]
              exact h1)
             clear fS oY O
             try go_frame
             try go_wp2
             go_roundw
             case rel=>
              refine⟨k+1,by omega,by go_num,Qh ((I.out.trans (yf.out.dY _)).trans Jr.out),yh,Qh (fun j hj=>?_),Qh (Or.inr (by simp))⟩;rcases Nat.lt_or_ge j k with h1|h1
              ·exact E.out j h1
              ·obtain rfl:j=k:=by omega
               rw[←HI.out];exact TD.out
             case measure=>simp[RowKit.intOf];omega
           ·have H:Hid (eI h=none):=Qh (Dm (by
             cases hn:eX h with
             |false=>rfl
             |true=>
              have h1:=dn.1 hn i yH yI;rw[hl]at h1
              cases h1))
            go_wp2;go_ret2
            exact⟨(re.out.then I.out (fun i hi=>Or.inl (by
             have h1:i=g:=hi;rw[h1]
             exact MY.out))).trans yf.out,Or.inr ⟨H.out,rfl⟩⟩
          ·obtain rfl:k=5:=by omega
           have hqt:q=true:=by
            rcases ZA.out with h1|h1
            ·omega
            ·exact h1
           subst hqt;have HBF:Hid (gX h=false):=Qh (by have:=Tz.out;revert this;cases gX h<;>simp);have oS:Hid (eX h=true):=Qh (dn.2 (Py fun j hj=>E.out j hj));have UL:=Qh (I4 uC.out HBF.out oS.out)
           have HKR:Hid (Kept ai w wr):=Qh (re.out.then I.out (fun i hi=>Or.inl (by
            have h1:i=g:=hi;rw[h1]
            exact MY.out)))
           have tU:=Qh (I.out.some_ fV.out Uz.out);obtain⟨oA,J⟩:∃oA,oA=kt h 5:=⟨_,rfl⟩
           have hFA:Fits oA:=by rw[J];exact rT E.out
           rw[←J]at G;have HOA:=Qh J;have T:=Qh hFA;have Cw:s.length≤100:=u.out.1;have xI:p.length≤155:=u.out.2.1;have h5:¬((5:Int)<5):=by omega
           clear J hFA
           go_wp2_with (first|(refine jK rfl _ _ 26 9 rfl 5 Tryz.underlying26 mi (some ⟨g,0,none⟩) 512 512 (str s) rfl rfl g 0 (ba oA) G.out s (by rw[aU,List.take_of_length_le (by omega)]) (fun _=>rfl) (by rw[aI];omega) ?_;intro w4 xw c QT)|go_in)
           have xq:=Qh (ly T.out (i:=0) (by omega) (show s.length≤aj 0 from Cw) xw.out);have WO:=Qh (fH T.out (i:=0) (show s.length≤aj 0 from Cw));have yf:=Qh c;clear xw c QT;have Bc:Hid (p=(str p).data.toList.take 167):=Qh (by rw[aU,List.take_of_length_le (by omega)]);obtain⟨oB,X⟩:∃oB,oB=pR oA 0 (cd (oA 0) s):=⟨_,rfl⟩
           rw[←X]at xq WO;have HOB:=Qh X;have tE:Hid (345+p.length≤(ba oB).length):=Qh (by rw[aI];omega);clear X;obtain⟨w5,Ua,O,fS,oY⟩:=zm (P:=Tryz.prog) (w:=w4) 26 9 3 5 Tryz.underlying26 mi (some ⟨g,345,none⟩) 167 167 (str p) g 345 (ba oB) xq.out p Bc.out (fun _=>rfl) tE.out;have O:=Qh O;have yh:=Qh (ly WO.out (i:=10) (by omega) (show p.length≤aj 10 from xI) O.out);have U:=Qh (fH WO.out (i:=10) (show p.length≤aj 10 from xI));have Jr:=Qh (yf.out.trans fS);have o4:=Qh (Jr.out.some_ tU.out Uz.out);have c5:=bJ o4.out;clear O fS oY;go_wp2_with fail;rw[Ua];simp only[Result.andThen];rw[Oper.upon_value]
           apply_assumption
           clear Ua;go_wp2_with fail
           try go_frame
           go_still_tail 4,(by kernel_rfl)
           obtain⟨oC,Y⟩:∃oC,oC=pR oB 10 (cd (oB 10) p):=⟨_,rfl⟩
           rw[←Y]at yh U;have HOC:=Qh Y;have vF:h.link.length≤100:=by have:=m.out;omega
           have zF:=Qh vF;have Ec:Hid (h.link=A.data.toList.take 355):=Qh (by rw[Hj.out,List.take_of_length_le (by omega)]);have xx:Hid (157+h.link.length≤(ba oC).length):=Qh (by rw[aI];omega);clear Y vF;refine jK rfl _ _ 26 9 rfl 5 Tryz.underlying26 mi (some ⟨g,157,none⟩) 355 355 A rfl rfl g 157 (ba oC) (yh.out.kept (Kept.refl ai _).drew id) h.link Ec.out (fun _=>rfl) xx.out ?_;intro w6 Bl xt hs6;have Hl:=Qh (ly U.out (i:=8) (by omega) (show h.link.length≤aj 8 from zF.out) Bl.out);have Hh:=Qh (fH U.out (i:=8) (show h.link.length≤aj 8 from zF.out));have MZ:Hid (Kept (ay g) wr w6):=Qh (Jr.out.drew.trans xt);obtain⟨oD,Z⟩:∃oD,oD=pR oC 8 (cd (oC 8) h.link):=⟨_,rfl⟩
           rw[←Z]at Hl Hh;have HOD:=Qh Z;clear Bl xt hs6 Z;have HU2:Hid (257+dq.length≤(ba oD).length):=Qh (by rw[aI];decide)
           try go_frame
           have HU1:Hid (dq.length≤aj 9):=Qh (by decide)
           go_wp2_with (first|(refine jK rfl _ _ 26 9 rfl 5 Tryz.underlying26 mi (some ⟨g,257,none⟩) 255 255 _ rfl rfl g 257 (ba oD) Hl.out dq rfl (fun _=>rfl) HU2.out ?_;intro w7 tP tM Sc;have DW:=Qh (ly Hh.out (i:=9) (by omega) HU1.out tP.out);have HK7:Hid (Kept (ay g) wr w7):=Qh (MZ.out.trans tM);have c7:=bJ (HK7.out.some_ tU.out Uz.out);have ae1:=DW.out.cell 156 (by rw[aI];omega);have f156:=DW.out.frozen 156;clear tP tM Sc)|fail)
           obtain⟨oE,L⟩:∃oE,oE=pR oD 9 (cd (oD 9) dq):=⟨_,rfl⟩
           rw[←L]at DW;have hFE:Fits oE:=by rw[L];exact fH Hh.out (i:=9) HU1.out
           have G:=DW.out.set 156 h.kind;rw[←WV.out,GR _ _ _ (by rw[aI];omega)]at G;have G:=ly hFE (i:=7) (by omega) (show[h.kind].length≤aj 7 from Qk _) G
           have Y6:pR oE 7 (cd (oE 7) [h.kind])=fq h p s:=by
            rw[L,HOD.out,HOC.out,HOB.out,HOA.out];exact Ks h p s (by rw[←HOA.out];exact T.out) u.out.1 u.out.2.1 zF.out oS.out
           rw[Y6]at G;obtain⟨w8,b⟩:∃w8,w8=w7.setCell ⟨g,156,none⟩ (.int .u8 N):=⟨_,rfl⟩
           rw[←b]at G⊢;have HK8:Hid (Kept (ay g) wr w8):=Qh (by rw[b];exact HK7.out.setCell (a:=⟨g,156,none⟩) (Or.inr (show ay g g from rfl)) _);have HR8:=Qh G;have TS:=G.gC;rw[aI]at TS;obtain⟨S,hS⟩:∃S,S=dc (ba (fq h p s)) 512:=⟨_,rfl⟩
           have hSL:=nW (ba (fq h p s)) 512;refine(PZ _ 512 512 (ba (fq h p s)) w8 (by omega) TS).mono ?_;rintro e w8' ⟨rfl,rfl⟩;rw[←hS]at hSL⊢;have MH:=Qh hS;have Tx:=Qh (oL u.out.1 u.out.2.1 zF.out oS.out);clear hS TS G b Y6 hFE L c7 ae1 f156;go_wp2_with fail;refine(PW (S:Int) 7 w8 (WalkArith.wf_i64 (by omega)) (by decide)).mono ?_;rintro e w9 ⟨v,y,rfl,hp,QN⟩;rcases hp with⟨l,sp,sc,hl,rfl,rfl,VS,nt⟩|⟨hl,_,_⟩
           ·rw[qT (by omega)]at hl
            have hl:=Option.some.inj hl;have o:l.length=7:=by rw[←hl];simp[cP]
            have UN:=Qh (HR8.out.kept QN id);have WU:Hid (Kept (ay g) wr w9):=Qh (HK8.out.trans (QN.dY _));have Eg:Hid (cK w9 sp (bytesOf l).length (bytesOf l)):=Qh (by rw[bytesOf_length];exact nt);have V:Hid ((bytesOf l).length=Nat.min 7 364):=Qh (by rw[bytesOf_length,o];rfl);have Q7:Hid (148+(bytesOf l).length≤(ba (fq h p s)).length):=Qh (by rw[bytesOf_length,aI,o];omega);have MX:Hid ((bytesOf l).length=7):=Qh (by rw[bytesOf_length,o]);have HSB:Hid (bytesOf l++[32]=sf S):=Qh (by rw[sf,hl]);rw[o];rw[o]at VS;clear hl o nt QN
            go_wp2_with (first|(refine q5 rfl _ _ 26 26 rfl 5 Tryz.underlying26 mi (some ⟨g,148,none⟩) sp 364 364 7 sc rfl rfl g 148 (ba (fq h p s)) UN.out (bytesOf l) V.out (fun _=>rfl) Eg.out Q7.out ?_;intro Tl ZB KP ag7;have UM:=Qh ZB.out;have UC:Hid (Kept (ay g) wr Tl):=Qh (WU.out.trans KP);have al3:=UM.out.cell 155 (by rw[length_splice _ _ _ Q7.out,aI];omega);have f155:=UM.out.frozen 155;clear ZB KP ag7)|fail)
            have OG:(splice (ba (fq h p s)) 148 (bytesOf l)).set 155 32=ba (rS h p s):=by
             have h1:=DJ (ba (fq h p s)) (bytesOf l) 148 32 (by rw[MX.out,aI];omega);rw[MX.out,HSB.out]at h1;have h2:splice (ba (fq h p s)) 148 (sf S)=_:=iR Tx.out (i:=6) (by omega) (by rw[jf];exact Qk _);rw[gu (by rw[jf,(mB h p s).2.1];rfl),MH.out]at h2;rw[MH.out]at h1;exact h1.trans h2
            have ZC:=UM.out.set 155 32;rw[OG]at ZC;go_ret2
            exact⟨HKR.out.then (UC.out.setCell (a:=⟨g,155,none⟩) (Or.inr (show ay g g from rfl)) _) (fun i hi=>Or.inl (by
             have h1:i=g:=hi;rw[h1]
             exact MY.out)),Or.inl ⟨_,g,UL.out,rfl,ZC,MY.out⟩⟩
           ·exfalso
            rw[qT (by omega)]at hl
            cases hl
end Head
end Go.Proofs.YtdhibldkldlfpaaGreatDoor
