/- Merged. -/
import Derived.Test.YtdhibldkldlfpaaGreatDoorEmitUnpacksX21
import Derived.Test.YtdhibldkldlfpaaGreatDoorEmitUnpacksX16
import Derived.WalkSpells
import Derived.Test.YtdhibldkldlfpaaGreatDoorEmitUnpacksX24
namespace Go.Proofs.YtdhibldkldlfpaaGreatDoor
set_option linter.unusedVariables false
set_option maxHeartbeats 4000000
set_option maxRecDepth 100000
open Go.ChangeShapes Go.WideShapes Go.ChangeAt Go.RowKit Base cb iK Hp Go.Proofs.YtdhibldkldlfpaaGreatDoor.Mp
namespace Head
open ur
variable {name:List UInt8}
def cutV (name:List UInt8):Value:=
 match o7 name with
 |some (p,s)=>.tuple #[.string (str p),.string (str s),.bool true]
 |none=>.tuple #[.string ⟨#[]⟩,.string ⟨#[]⟩,.bool false]
theorem yZ {p s:List UInt8} (h:o7 name=some (p,s)):cutV name=.tuple #[.string (str p),.string (str s),.bool true]:=by rw[cutV,h]
theorem EN (h:o7 name=none):cutV name=.tuple #[.string ⟨#[]⟩,.string ⟨#[]⟩,.bool false]:=by rw[cutV,h]
theorem I4 (s:ByteArray) (k:Nat):s.extract 0 k=str (s.data.toList.take k):=by
 apply ByteArray.ext;apply Array.toList_inj.1;rw[ByteArray.data_extract,Array.toList_extract];rfl
theorem I3 (s:ByteArray) (k:Nat):s.extract k s.size=str (s.data.toList.drop k):=by
 apply ByteArray.ext;apply Array.toList_inj.1;rw[ByteArray.data_extract,Array.toList_extract];show(s.data.toList.drop k).take (s.size - k)=s.data.toList.drop k;rw[List.take_of_length_le];rw[Qe,Array.length_toList];exact Qk _
theorem s_at (s:ByteArray) (k:Nat) (h:k<s.size):s.data.toList.getD k 0=s[k]:=by
 rw[List.getD,Qd (show k<s.data.toList.length by simpa using h)];rfl
theorem Je (s:ByteArray) (w:World) (hm:s.size≤140737488351232):
 Calls Tryz.prog 125 #[.string s] w fun e w'=>e=.returned (cutV s.data.toList)∧Kept ag w w':=by
 have hlen:s.data.toList.length=s.size:=by simp
 have A:=Qh hlen;clear hlen
 by_cases N:s.size≤100
 ·have E:Hid (cutV s.data.toList=.tuple #[.string ⟨#[]⟩,.string s,.bool true]):=Qh (by
   rw[yZ (xb (by rw[A.out];exact N)),zF];rfl)
  go_enter Tryz.func125,Tryz.ntmps125
  go_wp2
  go_ret3
  rw[E.out];exact⟨rfl,Kept.refl _ _⟩
 ·have M:Hid (¬s.data.toList.length≤100):=Qh (by rw[A.out];exact N)
  go_enter Tryz.func125,Tryz.ntmps125
  go_wp2_with fail
  go_loopw [14] (fun i wr=>∃(k:Nat),k≤s.size∧i=.int .i64 k∧Hid (∀j,j<k→¬kO s.data.toList j)∧Hid (Kept ag w wr)) (fun i _=>s.size - (RowKit.intOf i).toNat)
  case atStart=>exact⟨0,Nat.zero_le _,rfl,Qh (fun j U=>by omega),Qh (Kept.refl _ _)⟩
  case round=>
   obtain⟨k,hk,rfl,J,R⟩:=hrel
   by_cases Z:k<s.size
   ·have O:Hid (((s[k]).toNat:Int)=((s.data.toList.getD k 0).toNat:Int)):=Qh (by rw[s_at s k Z])
    have m:(s.extract 0 k).size=k:=by rw[I4,ax,Qg,A.out];omega
    have o:(s.extract (k+1) s.size).size=s.size - (k+1):=by rw[I3,ax,Qe,A.out]
    have L:Hid ((¬kO s.data.toList k)→∀j,j<k+1→¬kO s.data.toList j):=Qh (fun h j U=>by
     rcases Nat.lt_succ_iff_lt_or_eq.1 U with b|rfl
     ·exact J.out j b
     ·exact h)
    have V:=Qh (I4 s k);have W:=Qh (I3 s (k+1));have X:=F1 (s[k]);obtain⟨f,p⟩:=X;have G:=Qh (fun nq=>R.out.drewN nq)
    by_cases hc:((s[k]).toNat:Int)=47
    ·have HC:Hid (s.data.toList.getD k 0=47):=Qh (UInt8.toNat_inj.1 (show(s.data.toList.getD k 0).toNat=47 by have:=O.out;omega))
     have Y:(((s[k]).toNat:Int)==47)=true:=by simpa using hc
     by_cases T:1≤s.size - (k+1)∧s.size - (k+1)≤100
     ·obtain⟨g,l⟩:=T
      by_cases ha:1≤k∧k≤155
      ·obtain⟨H,I⟩:=ha
       have hm:Hid (kO s.data.toList k):=Qh ⟨HC.out,H,I,by rw[A.out];omega,by rw[A.out];omega⟩
       have E:Hid (cutV s.data.toList=.tuple #[.string (s.extract 0 k),.string (s.extract (k+1) s.size),.bool true]):=Qh (by
        rw[yZ (XP M.out hm.out J.out),←V.out,←W.out])
       go_wp2_with fail
       go_quiet (fail)
       go_wp2_with (go_at_call 152;first|(refine(kA _ _ _ _ (by omega) (by omega)).mono ?_;rintro e B ⟨rfl,rfl⟩)|(refine(qY _ _ _ _ (by omega)).mono ?_;rintro e B ⟨rfl,rfl⟩))
       go_ret3
       rw[E.out];exact⟨rfl,G.out _⟩
      ·have D:Hid (¬kO s.data.toList k):=Qh (fun h=>ha ⟨h.2.1,h.2.2.1⟩)
       go_wp2_with fail
       go_quiet (fail)
       go_wp2_with (go_at_call 152;first|(refine(kA _ _ _ _ (by omega) (by omega)).mono ?_;rintro e B ⟨rfl,rfl⟩)|(refine(qY _ _ _ _ (by omega)).mono ?_;rintro e B ⟨rfl,rfl⟩))
       go_roundw
       case rel=>exact⟨k+1,by omega,by go_num,Qh (L.out D.out),Qh (G.out _)⟩
       case measure=>simp[RowKit.intOf];omega
     ·have D:Hid (¬kO s.data.toList k):=Qh (fun h=>T (by
       have h1:=h.2.2.2.1;have c:=h.2.2.2.2;rw[A.out]at h1 c
       omega))
      go_wp2_with fail
      go_quiet (fail)
      go_wp2_with (go_at_call 152;first|(refine(kA _ _ _ _ (by omega) (by omega)).mono ?_;rintro e B ⟨rfl,rfl⟩)|(refine(qY _ _ _ _ (by omega)).mono ?_;rintro e B ⟨rfl,rfl⟩))
      go_roundw
      case rel=>exact⟨k+1,by omega,by go_num,Qh (L.out D.out),Qh (G.out _)⟩
      case measure=>simp[RowKit.intOf];omega
    ·have D:Hid (¬kO s.data.toList k):=Qh (fun h=>hc (by rw[O.out,h.1];rfl))
     have Y:(((s[k]).toNat:Int)==47)=false:=by simpa using hc
     go_wp2_with fail
     go_quiet (fail)
     go_wp2_with (go_at_call 152;first|(refine(kA _ _ _ _ (by omega) (by omega)).mono ?_;rintro e B ⟨rfl,rfl⟩)|(refine(qY _ _ _ _ (by omega)).mono ?_;rintro e B ⟨rfl,rfl⟩))
     go_roundw
     case rel=>exact⟨k+1,by omega,by go_num,Qh (L.out D.out),Qh (G.out _)⟩
     case measure=>simp[RowKit.intOf];omega
   ·have d:Hid (k=s.size):=Qh (by omega)
    have E:Hid (cutV s.data.toList=.tuple #[.string ⟨#[]⟩,.string ⟨#[]⟩,.bool false]):=Qh (EN (Qq M.out (by
     rw[A.out,←d.out];exact J.out)))
    go_wp2
    go_ret3
    rw[E.out];exact⟨rfl,R.out⟩
end Head
namespace Head
open Fp Go.Proofs.YtdhibldkldlfpaaGreatDoor.Field Go.Lib
variable {h:af}
theorem Mm (l:List UInt8):decide (0≤Lib.indexByte l 0)=l.contains 0:=by
 cases hc:l.contains 0 with
 |true=>
  rw[decide_eq_true_eq];have hm:(0:UInt8)∈l:=by simpa using hc
  obtain⟨k,hk⟩:=List.getElem?_of_mem hm;have B:=Lib.indexByte_ge l 0;rcases Int.lt_or_le (Lib.indexByte l 0) 0 with h|h
  ·exact absurd hk (Lib.indexByte_none (show Lib.indexByte l 0=-1 by omega) k)
  ·exact h
 |false=>
  rw[decide_eq_false_iff_not];intro h;obtain⟨k,hk⟩:∃k:Nat,Lib.indexByte l 0=k:=⟨(Lib.indexByte l 0).toNat,by omega⟩
  have h1:=List.mem_of_getElem? (Lib.indexByte_some hk).1;have A:l.contains 0=true:=by simpa using h1
  rw[hc]at A
  cases A
theorem qo (l:List UInt8) (w:World):Calls Tryz.prog 157 #[.string (str l),.string ⟨#[0]⟩] w fun e w'=>e=.returned (.bool (l.contains 0))∧w=w':=
 (Any.strings_Contains_one Tryz.zo (str l) 0 w).mono fun e w' ⟨h1,h2⟩=>⟨by rw[h1,aS,Mm],h2.symm⟩
theorem uW {own:Nat→List UInt8} {i:Nat} {t:List UInt8} (hz:own i=List.replicate (aq i) 0) (hl:t.length≤aq i):nN (own i) (t.take (aq i))=qc (aq i) t:=by
 rw[hz,List.take_of_length_le hl,Hj]
theorem VM (hc:o7 h.name=none):nK h=none:=by unfold nK;rw[hc]
theorem uV (hb:ug h=true):nK h=none:=by
 unfold nK
 cases o7 h.name with
 |none=>rfl
 |some ps=>simp only;rw[if_pos (by rw[hb];rfl)]
theorem VN (hn:nC h=false):nK h=none:=by
 unfold nK
 cases o7 h.name with
 |none=>rfl
 |some ps=>simp only;rw[if_pos (by rw[hn];simp)]
theorem YW {p s:List UInt8} (hc:o7 h.name=some (p,s)) (hb:ug h=false) (hn:nC h=true):nK h=some (iY (Bd h p s)):=by
 unfold nK;rw[hc];simp only;rw[if_neg (by rw[hb,hn];simp)]
def Ts (w:World) (r:Option (List UInt8)) (e:Ending) (w':World):Prop:=
 Kept ag w w'∧((∃bs g,r=some bs∧e=.returned (.tuple #[.slice (some ⟨g,0,none⟩) 512 512,.bool true])∧kU w' g bs∧w.heap.size≤g)∨(r=none∧e=.returned (.tuple #[.slice none 0 0,.bool false])))
theorem YM (w:World) (k:UInt8):iC (w.alloc (.cells #[.int .u8 (k.toNat:Int)] 5)) (some ⟨w.heap.size,0,none⟩) 1 [k]:=fun _=>
 ⟨w.heap.size,0,rfl,fun i hi=>by
  obtain rfl:i=0:=by omega
  rw[World.cell?_alloc_at _ _ _ _ rfl]
  rfl⟩
theorem C9 (h:af) (p s:List UInt8):po h p s 0=qc 100 s∧po h p s 6=List.replicate 8 0∧po h p s 7=[h.kind]∧po h p s 8=qc 100 h.link∧po h p s 9=kf∧po h p s 10=qc 155 p∧∀i,1≤i→i≤5→po h p s i=MT h i:=by
 refine⟨rfl,rfl,rfl,rfl,rfl,rfl,fun i h1 A=>?_⟩;unfold po;rw[if_neg (by omega),if_neg (by omega),if_neg (by omega),if_neg (by omega),if_neg (by omega),if_neg (by omega),if_pos A]
theorem VK (h:af) (hwf:∀i,(Lit.int .i64 (sc h i)).wf=true) (Md:h.name.length≤140737488351232) (Mc:h.link.length≤140737488351232) (w:World):
 Calls Tryz.prog 127 #[.agg #[.string (str h.name),.string (str h.link),.int .u8 (h.kind.toNat:Int),.int .i64 h.mode,.int .i64 h.uid,.int .i64 h.gid,.int .i64 h.time,.int .i64 h.size,.bool h.j7]] w (Ts w (nK h)):=by
 obtain⟨I,GQ⟩:∃I,I=w.alloc (.cells #[.string (str h.name),.string (str h.link),.int .u8 (h.kind.toNat:Int),.int .i64 h.mode,.int .i64 h.uid,.int .i64 h.gid,.int .i64 h.time,.int .i64 h.size,.bool h.j7] 66):=⟨_,rfl⟩
 have J:Hid (Kept ag w I):=Qh (by rw[GQ];exact(Kept.refl _ _).alloc _);have nG:Hid (I.heap[w.heap.size]? =some (.cells (aa h) 66 (0,0))):=Qh (by rw[GQ];exact heap_alloc_new _ _);have HWF:=Qh hwf;have hls:(str h.link).size=h.link.length:=ax _;clear hwf
 go_enter Tryz.func127,Tryz.ntmps127
 go_wp2_with fail
 rw[←GQ];clear GQ;refine(Je (str h.name) I (by rw[ax];exact Md)).mono ?_;rintro e g ⟨rfl,jM⟩;rw[aS];have H:=Qh jM;clear jM
 cases hcut:o7 h.name with
 |none=>
  rw[EN hcut];have hR:=VM hcut;have D:=Qh hR;clear hR hcut;have c1:=bC (H.out.some_ nG.out id);unfold aa at c1;go_wp2;go_ret2;exact⟨J.out.trans H.out,Or.inr ⟨D.out,rfl⟩⟩
 |some ps=>
  obtain⟨p,s⟩:=ps;rw[yZ hcut];have Ga:=Qh hcut;have q:=Qh (yY hcut);clear hcut;have c1:=bC (H.out.some_ nG.out id);unfold aa at c1
  by_cases d:h.j7=true
  ·have D:Hid (nK h=none):=Qh (uV (by unfold ug;rw[d];rfl))
   rw[d]at c1;clear d;go_wp2;go_ret2;exact⟨J.out.trans H.out,Or.inr ⟨D.out,rfl⟩⟩
  ·have M:h.j7=false:=by simpa using d
   have N:=Qh M
   by_cases c:h.kind=0
   ·have D:Hid (nK h=none):=Qh (uV (by unfold ug;rw[M,c];rfl))
    rw[M,c]at c1;have c1:∀i,g.cell? ⟨w.heap.size,i,none⟩=(#[.string (str h.name),.string (str h.link),.int .u8 0,.int .i64 h.mode,.int .i64 h.uid,.int .i64 h.gid,.int .i64 h.time,.int .i64 h.size,.bool false]:Array Value)[i]? :=c1;clear d M c;go_wp2;go_ret2;exact⟨J.out.trans H.out,Or.inr ⟨D.out,rfl⟩⟩
   ·have sB:((h.kind.toNat:Int)==0)=false:=by
     have h1:h.kind.toNat≠0:=fun e=>c (UInt8.toNat_inj.1 e)
     simp;omega
    have pC:=Qh c;have uj:¬((h.kind.toNat:Int)=0):=by simpa using sB
    by_cases OC:h.link.length≤100
    ·rw[M]at c1
     clear d M c;go_wp2_with fail;refine(qo h.name g).mono ?_;rintro e w1' ⟨rfl,rfl⟩
     by_cases jS:h.name.contains 0=true
     ·have D:Hid (nK h=none):=Qh (uV (by unfold ug;rw[jS];simp))
      rw[jS];clear jS;go_wp2;go_ret2;exact⟨J.out.trans H.out,Or.inr ⟨D.out,rfl⟩⟩
     ·have U:h.name.contains 0=false:=by simpa using jS
      have pX:=Qh U;rw[U];clear jS U;go_wp2_with fail;refine(qo h.link g).mono ?_;rintro e w1' ⟨rfl,rfl⟩
      by_cases jU:h.link.contains 0=true
      ·have D:Hid (nK h=none):=Qh (uV (by unfold ug;rw[jU];simp))
       rw[jU];clear jU;go_wp2;go_ret2;exact⟨J.out.trans H.out,Or.inr ⟨D.out,rfl⟩⟩
      ·have V:h.link.contains 0=false:=by simpa using jU
       have S7:Hid (ug h=false):=Qh (by
        unfold ug;rw[N.out,pX.out,V];have h1:(h.kind==0)=false:=by simpa using pC.out
        have h2:¬100<h.link.length:=by omega
        rw[h1]
        simp[h2])
       rw[V];clear jU V;go_wp2_with fail;refine(EG g).mono ?_;rintro e w2 ⟨B,r,rfl,L,jm⟩;have ox:=Qh (H.out.trans jm);have Wx:Hid (I.heap.size≤g.heap.size):=Qh H.out.size;obtain⟨lo,Yd⟩:∃lo,lo=g.heap.size:=⟨_,rfl⟩
       rw[←Yd]at L;have HLW:Hid (I.heap.size≤lo):=Qh (by rw[Yd];exact Wx.out);have Gb:=Qh L;have Gc:Hid (∀i,i<11→I.heap.size≤r i):=Qh (fun i hi=>Nat.le_trans HLW.out (L.lo.2 i hi));clear L jm Yd c1;have c2:=bC (ox.out.some_ nG.out id);unfold aa at c2;rw[N.out]at c2;go_wp2_with fail
       refine Calls.mono (show Calls _ _ _ _ (zT w2 lo B r h oh) by
        have hh:=Dh h HWF.out lo B r oh w2 Gb.out (fun i _ _=>rfl);rw[N.out]at hh
        exact hh) ?_
       intro e w3 h3;obtain⟨jC,(⟨GK,rfl,WH⟩|⟨oH,rfl⟩)⟩:=h3
       ·have zR:=Qh GK
        have Bh:=Qh WH
        have Bf:=Qh (ox.out.then jC (fun k hk=>Or.inl (by
         obtain⟨i,hi,rfl⟩:=hk
         exact Gc.out i hi)))
        have hKT:∀(i:Nat) (wa wb:World),i<11→Kept ag I wa→Kept (aA (r i)) wa wb→Kept ag I wb:=fun i wa wb hi ha hb=>ha.then hb (fun k hk=>Or.inl (by
         have h1:k=r i:=hk;rw[h1]
         exact Gc.out i hi))
        have A:=Qh hKT;have xC:s.length≤100:=q.out.1;have OE:p.length≤155:=q.out.2.1;clear GK WH jC c2 hKT;go_wp2_with fail;refine(pr lo B r _ 0 (str s) w3 (by omega) Bh.out).mono ?_;rintro e w4 ⟨rfl,SL,tz,-⟩;rw[aS,uW (i:=0) (t:=s) rfl xC]at SL;have NV:=Qh SL;have Bg:=Qh (A.out 0 _ _ (by omega) Bf.out tz);clear SL tz;go_wp2_with fail;refine(pr lo B r _ 10 (str p) w4 (by omega) NV.out).mono ?_;rintro e w5 ⟨rfl,Zx,p7,-⟩;rw[aS,uW (i:=10) (t:=p) rfl OE]at Zx;have HP5:=Qh Zx;have KQ:=Qh (A.out 10 _ _ (by omega) Bg.out p7);clear Zx p7;have c5:=bC (KQ.out.some_ nG.out id);unfold aa at c5
        have cvk:(convert 26 9 (.slice (some ⟨w5.heap.size,0,none⟩) 1 1)).run Tryz.prog (w5.alloc (.cells #[.int .u8 (h.kind.toNat:Int)] 5))=.ok (.string (str [h.kind])) (w5.alloc (.cells #[.int .u8 (h.kind.toNat:Int)] 5)):=
         iR (YM w5 h.kind) rfl _ _ _ Tryz.underlying26 Tryz.underlying5 Tryz.underlying9 1
        have m:=Qh ((Kept.refl ag w5).alloc (.cells #[.int .u8 (h.kind.toNat:Int)] 5));go_wp2_with fail;refine(pr lo B r _ 7 (str [h.kind]) _ (by omega) (HP5.out.jq m.out)).mono ?_;rintro e w6 ⟨rfl,W,OA,-⟩;rw[aS,uW (i:=7) (t:=[h.kind]) rfl (Qk 1)]at W;have HP6:=Qh W;have Tb:=Qh (A.out 7 _ _ (by omega) (KQ.out.trans m.out) OA);clear W OA c5 cvk;have c6:=bC (Tb.out.some_ nG.out id);unfold aa at c6;go_wp2_with fail;refine(pr lo B r _ 8 (str h.link) w6 (by omega) HP6.out).mono ?_;rintro e w7 ⟨rfl,X,zl,-⟩;rw[aS,uW (i:=8) (t:=h.link) rfl OC]at X;have HP7:=Qh X;have HK7:=Qh (A.out 8 _ _ (by omega) Tb.out zl);clear X zl c6;go_wp2_with fail;refine(pr lo B r _ 9 _ w7 (by omega) HP7.out).mono ?_;rintro e w8 ⟨rfl,E,UA,-⟩;rw[show(ByteArray.mk #[117,115,116,97,114,0,48,48]).data.toList=kf from rfl,uW (i:=9) (t:=kf) rfl (Qk 8)]at E;have HK8:=Qh (A.out 9 _ _ (by omega) HK7.out UA);obtain⟨own,f⟩:∃own,own=KO (KO (KO (KO (KO (C0 h oh) 0 (qc (aq 0) s)) 10 (qc (aq 10) p)) 7 (qc (aq 7) [h.kind])) 8 (qc (aq 8) h.link)) 9 (qc (aq 9) kf):=⟨_,rfl⟩
        rw[←f]at E
        have GJ:own=po h p s:=by
         have G:=C9 h p s;refine I8 E.fit (Fo xC OE OC zR.out) fun i hi=>?_
         rw[f];rcases th hi with rfl|rfl|rfl|rfl|rfl|rfl|rfl|rfl|rfl|rfl|rfl
         ·rw[G.1];rfl
         ·rw[G.2.2.2.2.2.2 1 (by omega) (by omega)];rfl
         ·rw[G.2.2.2.2.2.2 2 (by omega) (by omega)];rfl
         ·rw[G.2.2.2.2.2.2 3 (by omega) (by omega)];rfl
         ·rw[G.2.2.2.2.2.2 4 (by omega) (by omega)];rfl
         ·rw[G.2.2.2.2.2.2 5 (by omega) (by omega)];rfl
         ·rw[G.2.1];rfl
         ·rw[G.2.2.1];rfl
         ·rw[G.2.2.2.1];rfl
         ·rw[G.2.2.2.2.1];rfl
         ·rw[G.2.2.2.2.2.1];rfl
        rw[GJ]at E;have o:=Qh E;clear E UA f GJ own;go_wp2_with fail;refine(EH lo B r (po h p s) w8 o.out).mono ?_;rintro e w9 ⟨g1,rfl,hR9,hg9,Z⟩;have O:=Qh (o.out.jq Z);have HK9:=Qh (HK8.out.trans Z);have WL:=hR9.nB;rw[iE]at WL;have HB9:=Qh WL;clear hR9 hg9 Z WL
        have hS:((bP (iY (po h p s)) 512:Nat):Int) - (bP (po h p s 6) 8:Nat)+256=(jg (iY (po h p s)) 512:Nat):=by
         have h1:=FW (bs:=iY (po h p s));rw[tn O.out.fit (by omega)]at h1;omega
        have hSL:=vq (iY (po h p s)) 512;obtain⟨S,Y⟩:∃S,S=jg (iY (po h p s)) 512:=⟨_,rfl⟩
        rw[←Y]at hS hSL;have HS:=Qh hS;have HSD:=Qh Y;clear hS Y;go_wp2_with fail;refine(Hx lo B r (po h p s) _ 512 512 (iY (po h p s)) w9 (by omega) HB9.out O.out).mono ?_;rintro e w9' ⟨rfl,rfl⟩;rw[HS.out];go_wp2_with fail;refine(O6 (S:Int) 7 w9 (WalkArith.wf_i64 (by omega)) (by decide)).mono ?_;rintro e w10 ⟨z,(⟨l,v,hl,rfl,f⟩|⟨hl,rfl⟩)⟩
        ·obtain⟨p10,XM,rfl,aA2,aB6,A2,_⟩:=O7 rfl hl f
         rw[J5 (by omega)]at hl;have hl:=Option.some.inj hl;have b:l.length=7:=by rw[←hl];simp[jP]
         have T:Kept ag w9 w10:=Kept.bj z _;have ay8:=Qh (O.out.jq T);have ay4:=Qh (HK9.out.trans T);have cs:(convert 26 9 (.slice p10 l.length XM)).run Tryz.prog w10=.ok (.string (str (bytesOf l))) w10:=iR A2 (by rw[bytesOf_length]) _ _ _ Tryz.underlying26 Tryz.underlying5 Tryz.underlying9 XM;have hsz:(str (bytesOf l)).size=7:=by rw[ax,bytesOf_length,b]
         have HL:=Qh hl;have HL7:=Qh b;clear hl b f aA2 aB6 A2 z T;go_wp2_with fail;refine(pr lo B r _ 6 _ w10 (by omega) ay8.out).mono ?_;rintro e w11 ⟨rfl,R,ao5,-⟩
         have e6:(str (bytesOf l)++⟨#[32]⟩).data.toList=En S:=by
          rw[show(⟨#[32]⟩:ByteArray)=str [32]from rfl,vm,aS,En,HL.out]
         rw[e6,List.take_of_length_le (by rw[vn];exact Qk _),rT (by rw[vn,(C9 h p s).2.1];rfl),HSD.out]at R;have ay9:=Qh (show bB w11 lo B r (Bd h p s)from R);have u:=Qh (A.out 6 _ _ (by omega) ay4.out ao5);clear R ao5 e6 cs;go_wp2_with fail;refine(EH lo B r (Bd h p s) w11 ay9.out).mono ?_;rintro e w12 ⟨g2,rfl,y,ao2,GF⟩;have az1:=Qh y;have ay3:Hid (w.heap.size≤g2):=Qh (Nat.le_trans (Nat.le_trans J.out.size u.out.size) ao2);have ay5:=Qh (u.out.trans GF);have Xu:=Qh (YW Ga.out S7.out zR.out);clear y ao2 GF;go_wp2;go_ret2;exact⟨J.out.trans ay5.out,Or.inl ⟨_,g2,Xu.out,rfl,az1.out,ay3.out⟩⟩
        ·exfalso
         rw[J5 (by omega)]at hl
         cases hl
       ·have D:Hid (nK h=none):=Qh (VN oH)
        have Bf:=Qh (ox.out.then jC (fun k hk=>Or.inl (by
         obtain⟨i,hi,rfl⟩:=hk
         exact Gc.out i hi)))
        clear oH jC c2;go_wp2;go_ret2;exact⟨J.out.trans Bf.out,Or.inr ⟨D.out,rfl⟩⟩
    ·have aB4:100<h.link.length:=by omega
     have D:Hid (nK h=none):=Qh (uV (by unfold ug;simp[aB4]));rw[M]at c1;clear d M c;go_wp2;go_ret2;exact⟨J.out.trans H.out,Or.inr ⟨D.out,rfl⟩⟩
theorem Wt (p:Option Addr) (n c:Nat) (bs:List UInt8) (w:World) (hm:n≤140737488351232) (h:iC w p n bs):
 Calls Tryz.prog 72 #[.slice p n c] w fun e w'=>e=.returned (.bool (((bP bs n:Nat):Int)==0))∧w=w':=by
 have H:=Qh h;clear h
 go_enter Tryz.func72,Tryz.ntmps72
 go_wp2_with fail
 refine(zI p n c bs w hm H.out).mono ?_;rintro e A ⟨rfl,rfl⟩;go_wp2;go_ret;exact⟨rfl,rfl⟩
end Head
end Go.Proofs.YtdhibldkldlfpaaGreatDoor
