/- Merged. -/
import Derived.Test.YtdhibldkldlfpaaGreatDoorEmitSortedX21
import Derived.Test.YtdhibldkldlfpaaGreatDoorEmitSortedX16
import Derived.WalkSpells
import Derived.Test.YtdhibldkldlfpaaGreatDoorEmitSortedX24
namespace Go.Proofs.YtdhibldkldlfpaaGreatDoor
set_option linter.unusedVariables false
set_option maxHeartbeats 4000000
set_option maxRecDepth 100000
open Go.ChangeShapes Go.WideShapes Go.ChangeAt Go.RowKit Base bM cr Hp Go.Proofs.YtdhibldkldlfpaaGreatDoor.Mp
namespace Head
open ql
variable {name:List UInt8}
def cutV (name:List UInt8):Value:=
 match gq name with
 |some (p,s)=>.tuple #[.string (str p),.string (str s),.bool true]
 |none=>.tuple #[.string ⟨#[]⟩,.string ⟨#[]⟩,.bool false]
theorem pI {p s:List UInt8} (h:gq name=some (p,s)):cutV name=.tuple #[.string (str p),.string (str s),.bool true]:=by rw[cutV,h]
theorem vO (h:gq name=none):cutV name=.tuple #[.string ⟨#[]⟩,.string ⟨#[]⟩,.bool false]:=by rw[cutV,h]
theorem zE (s:ByteArray) (k:Nat):s.extract 0 k=str (s.data.toList.take k):=by
 apply ByteArray.ext;apply Array.toList_inj.1;rw[ByteArray.data_extract,Array.toList_extract];rfl
theorem zD (s:ByteArray) (k:Nat):s.extract k s.size=str (s.data.toList.drop k):=by
 apply ByteArray.ext;apply Array.toList_inj.1;rw[ByteArray.data_extract,Array.toList_extract];show(s.data.toList.drop k).take (s.size - k)=s.data.toList.drop k;rw[List.take_of_length_le];rw[Qe,Array.length_toList];exact Qk _
theorem s_at (s:ByteArray) (k:Nat) (h:k<s.size):s.data.toList.getD k 0=s[k]:=by
 rw[List.getD,Qd (show k<s.data.toList.length by simpa using h)];rfl
theorem zO (s:ByteArray) (w:World) (hm:s.size≤140737488351232):
 Calls Tryz.prog 125 #[.string s] w fun e w'=>e=.returned (cutV s.data.toList)∧Kept ag w w':=by
 have hlen:s.data.toList.length=s.size:=by simp
 have A:=Qh hlen;clear hlen
 by_cases N:s.size≤100
 ·have E:Hid (cutV s.data.toList=.tuple #[.string ⟨#[]⟩,.string s,.bool true]):=Qh (by
   rw[pI (nM (by rw[A.out];exact N)),jt];rfl)
  go_enter Tryz.func125,Tryz.ntmps125
  go_wp2
  go_ret3
  rw[E.out];exact⟨rfl,Kept.refl _ _⟩
 ·have M:Hid (¬s.data.toList.length≤100):=Qh (by rw[A.out];exact N)
  go_enter Tryz.func125,Tryz.ntmps125
  go_wp2_with fail
  go_loopw [14] (fun i wr=>∃(k:Nat),k≤s.size∧i=.int .i64 k∧Hid (∀j,j<k→¬eu s.data.toList j)∧Hid (Kept ag w wr)) (fun i _=>s.size - (RowKit.intOf i).toNat)
  case atStart=>exact⟨0,Nat.zero_le _,rfl,Qh (fun j V=>by omega),Qh (Kept.refl _ _)⟩
  case round=>
   obtain⟨k,hk,rfl,J,R⟩:=hrel
   by_cases b:k<s.size
   ·have O:Hid (((s[k]).toNat:Int)=((s.data.toList.getD k 0).toNat:Int)):=Qh (by rw[s_at s k b])
    have o:(s.extract 0 k).size=k:=by rw[zE,au,Qg,A.out];omega
    have p:(s.extract (k+1) s.size).size=s.size - (k+1):=by rw[zD,au,Qe,A.out]
    have L:Hid ((¬eu s.data.toList k)→∀j,j<k+1→¬eu s.data.toList j):=Qh (fun h j V=>by
     rcases Nat.lt_succ_iff_lt_or_eq.1 V with c|rfl
     ·exact J.out j c
     ·exact h)
    have W:=Qh (zE s k);have X:=Qh (zD s (k+1));have Y:=Mq (s[k]);obtain⟨q,g⟩:=Y;have G:=Qh (fun nq=>R.out.drewN nq)
    by_cases hc:((s[k]).toNat:Int)=47
    ·have HC:Hid (s.data.toList.getD k 0=47):=Qh (UInt8.toNat_inj.1 (show(s.data.toList.getD k 0).toNat=47 by have:=O.out;omega))
     have Z:(((s[k]).toNat:Int)==47)=true:=by simpa using hc
     by_cases U:1≤s.size - (k+1)∧s.size - (k+1)≤100
     ·obtain⟨m,l⟩:=U
      by_cases T:1≤k∧k≤155
      ·obtain⟨H,I⟩:=T
       have hm:Hid (eu s.data.toList k):=Qh ⟨HC.out,H,I,by rw[A.out];omega,by rw[A.out];omega⟩
       have E:Hid (cutV s.data.toList=.tuple #[.string (s.extract 0 k),.string (s.extract (k+1) s.size),.bool true]):=Qh (by
        rw[pI (ND M.out hm.out J.out),←W.out,←X.out])
       go_wp2_with fail
       go_quiet (fail)
       go_wp2_with (go_at_call 152;first|(refine(dW _ _ _ _ (by omega) (by omega)).mono ?_;rintro e B ⟨rfl,rfl⟩)|(refine(je _ _ _ _ (by omega)).mono ?_;rintro e B ⟨rfl,rfl⟩))
       go_ret3
       rw[E.out];exact⟨rfl,G.out _⟩
      ·have D:Hid (¬eu s.data.toList k):=Qh (fun h=>T ⟨h.2.1,h.2.2.1⟩)
       go_wp2_with fail
       go_quiet (fail)
       go_wp2_with (go_at_call 152;first|(refine(dW _ _ _ _ (by omega) (by omega)).mono ?_;rintro e B ⟨rfl,rfl⟩)|(refine(je _ _ _ _ (by omega)).mono ?_;rintro e B ⟨rfl,rfl⟩))
       go_roundw
       case rel=>exact⟨k+1,by omega,by go_num,Qh (L.out D.out),Qh (G.out _)⟩
       case measure=>simp[RowKit.intOf];omega
     ·have D:Hid (¬eu s.data.toList k):=Qh (fun h=>U (by
       have h1:=h.2.2.2.1;have d:=h.2.2.2.2;rw[A.out]at h1 d
       omega))
      go_wp2_with fail
      go_quiet (fail)
      go_wp2_with (go_at_call 152;first|(refine(dW _ _ _ _ (by omega) (by omega)).mono ?_;rintro e B ⟨rfl,rfl⟩)|(refine(je _ _ _ _ (by omega)).mono ?_;rintro e B ⟨rfl,rfl⟩))
      go_roundw
      case rel=>exact⟨k+1,by omega,by go_num,Qh (L.out D.out),Qh (G.out _)⟩
      case measure=>simp[RowKit.intOf];omega
    ·have D:Hid (¬eu s.data.toList k):=Qh (fun h=>hc (by rw[O.out,h.1];rfl))
     have Z:(((s[k]).toNat:Int)==47)=false:=by simpa using hc
     go_wp2_with fail
     go_quiet (fail)
     go_wp2_with (go_at_call 152;first|(refine(dW _ _ _ _ (by omega) (by omega)).mono ?_;rintro e B ⟨rfl,rfl⟩)|(refine(je _ _ _ _ (by omega)).mono ?_;rintro e B ⟨rfl,rfl⟩))
     go_roundw
     case rel=>exact⟨k+1,by omega,by go_num,Qh (L.out D.out),Qh (G.out _)⟩
     case measure=>simp[RowKit.intOf];omega
   ·have f:Hid (k=s.size):=Qh (by omega)
    have E:Hid (cutV s.data.toList=.tuple #[.string ⟨#[]⟩,.string ⟨#[]⟩,.bool false]):=Qh (vO (Gy M.out (by
     rw[A.out,←f.out];exact J.out)))
    go_wp2
    go_ret3
    rw[E.out];exact⟨rfl,R.out⟩
end Head
namespace Head
open Fp Go.Proofs.YtdhibldkldlfpaaGreatDoor.Field Go.Lib
variable {h:ak}
theorem CZ (l:List UInt8):decide (0≤Lib.indexByte l 0)=l.contains 0:=by
 cases hc:l.contains 0 with
 |true=>
  rw[decide_eq_true_eq];have hm:(0:UInt8)∈l:=by simpa using hc
  obtain⟨k,hk⟩:=List.getElem?_of_mem hm;have B:=Lib.indexByte_ge l 0;rcases Int.lt_or_le (Lib.indexByte l 0) 0 with h|h
  ·exact absurd hk (Lib.indexByte_none (show Lib.indexByte l 0=-1 by omega) k)
  ·exact h
 |false=>
  rw[decide_eq_false_iff_not];intro h;obtain⟨k,hk⟩:∃k:Nat,Lib.indexByte l 0=k:=⟨(Lib.indexByte l 0).toNat,by omega⟩
  have h1:=List.mem_of_getElem? (Lib.indexByte_some hk).1;have A:l.contains 0=true:=by simpa using h1
  rw[hc]at A
  cases A
theorem iE (l:List UInt8) (w:World):Calls Tryz.prog 157 #[.string (str l),.string ⟨#[0]⟩] w fun e w'=>e=.returned (.bool (l.contains 0))∧w=w':=
 (Any.strings_Contains_one Tryz.pT (str l) 0 w).mono fun e w' ⟨h1,h2⟩=>⟨by rw[h1,bg,CZ],h2.symm⟩
theorem mh {own:Nat→List UInt8} {i:Nat} {t:List UInt8} (hz:own i=List.replicate (aj i) 0) (hl:t.length≤aj i):fr (own i) (t.take (aj i))=iy (aj i) t:=by
 rw[hz,List.take_of_length_le hl,yz]
theorem LM (hc:gq h.name=none):fi h=none:=by unfold fi;rw[hc]
theorem mf (hb:lh h=true):fi h=none:=by
 unfold fi
 cases gq h.name with
 |none=>rfl
 |some ps=>simp only;rw[if_pos (by rw[hb];rfl)]
theorem LN (hn:fc h=false):fi h=none:=by
 unfold fi
 cases gq h.name with
 |none=>rfl
 |some ps=>simp only;rw[if_pos (by rw[hn];simp)]
theorem OC {p s:List UInt8} (hc:gq h.name=some (p,s)) (hb:lh h=false) (hn:fc h=true):fi h=some (cu (rB h p s)):=by
 unfold fi;rw[hc];simp only;rw[if_neg (by rw[hb,hn];simp)]
def JK (w:World) (r:Option (List UInt8)) (e:Ending) (w':World):Prop:=
 Kept ag w w'∧((∃bs g,r=some bs∧e=.returned (.tuple #[.slice (some ⟨g,0,none⟩) 512 512,.bool true])∧eC w' g bs∧w.heap.size≤g)∨(r=none∧e=.returned (.tuple #[.slice none 0 0,.bool false])))
theorem Oo (w:World) (k:UInt8):cD (w.alloc (.cells #[.int .u8 (k.toNat:Int)] 5)) (some ⟨w.heap.size,0,none⟩) 1 [k]:=fun _=>
 ⟨w.heap.size,0,rfl,fun i hi=>by
  obtain rfl:i=0:=by omega
  rw[World.cell?_alloc_at _ _ _ _ rfl]
  rfl⟩
theorem tK (h:ak) (p s:List UInt8):gB h p s 0=iy 100 s∧gB h p s 6=List.replicate 8 0∧gB h p s 7=[h.kind]∧gB h p s 8=iy 100 h.link∧gB h p s 9=eA∧gB h p s 10=iy 155 p∧∀i,1≤i→i≤5→gB h p s i=Dw h i:=by
 refine⟨rfl,rfl,rfl,rfl,rfl,rfl,fun i h1 A=>?_⟩;unfold gB;rw[if_neg (by omega),if_neg (by omega),if_neg (by omega),if_neg (by omega),if_neg (by omega),if_neg (by omega),if_pos A]
theorem LJ (h:ak) (Rv:∀i,(Lit.int .i64 (j0 h i)).wf=true) (Jp:h.name.length≤140737488351232) (Jo:h.link.length≤140737488351232) (w:World):
 Calls Tryz.prog 127 #[.agg #[.string (str h.name),.string (str h.link),.int .u8 (h.kind.toNat:Int),.int .i64 h.mode,.int .i64 h.uid,.int .i64 h.gid,.int .i64 h.time,.int .i64 h.size,.bool h.fp]] w (JK w (fi h)):=by
 obtain⟨G,Y⟩:∃G,G=w.alloc (.cells #[.string (str h.name),.string (str h.link),.int .u8 (h.kind.toNat:Int),.int .i64 h.mode,.int .i64 h.uid,.int .i64 h.gid,.int .i64 h.time,.int .i64 h.size,.bool h.fp] 66):=⟨_,rfl⟩
 have H:Hid (Kept ag w G):=Qh (by rw[Y];exact(Kept.refl _ _).alloc _);have W:Hid (G.heap[w.heap.size]? =some (.cells (aa h) 66 (0,0))):=Qh (by rw[Y];exact heap_alloc_new _ _);have WV:=Qh Rv;have hls:(str h.link).size=h.link.length:=au _;clear Rv
 go_enter Tryz.func127,Tryz.ntmps127
 go_wp2_with fail
 rw[←Y];clear Y;refine(zO (str h.name) G (by rw[au];exact Jp)).mono ?_;rintro e R ⟨rfl,dP⟩;rw[bg];have E:=Qh dP;clear dP
 cases hcut:gq h.name with
 |none=>
  rw[vO hcut];have hR:=LM hcut;have A:=Qh hR;clear hR hcut;have c1:=cn (E.out.some_ W.out id);unfold aa at c1;go_wp2;go_ret2;exact⟨H.out.trans E.out,Or.inr ⟨A.out,rfl⟩⟩
 |some ps=>
  obtain⟨p,s⟩:=ps;rw[pI hcut];have xu:=Qh hcut;have ZG:=Qh (pH hcut);clear hcut;have c1:=cn (E.out.some_ W.out id);unfold aa at c1
  by_cases L:h.fp=true
  ·have A:Hid (fi h=none):=Qh (mf (by unfold lh;rw[L];rfl))
   rw[L]at c1;clear L;go_wp2;go_ret2;exact⟨H.out.trans E.out,Or.inr ⟨A.out,rfl⟩⟩
  ·have I:h.fp=false:=by simpa using L
   have Wp:=Qh I
   by_cases J:h.kind=0
   ·have A:Hid (fi h=none):=Qh (mf (by unfold lh;rw[I,J];rfl))
    rw[I,J]at c1;have c1:∀i,R.cell? ⟨w.heap.size,i,none⟩=(#[.string (str h.name),.string (str h.link),.int .u8 0,.int .i64 h.mode,.int .i64 h.uid,.int .i64 h.gid,.int .i64 h.time,.int .i64 h.size,.bool false]:Array Value)[i]? :=c1;clear L I J;go_wp2;go_ret2;exact⟨H.out.trans E.out,Or.inr ⟨A.out,rfl⟩⟩
   ·have Bu:((h.kind.toNat:Int)==0)=false:=by
     have h1:h.kind.toNat≠0:=fun e=>J (UInt8.toNat_inj.1 e)
     simp;omega
    have Nb:=Qh J;have oJ:¬((h.kind.toNat:Int)=0):=by simpa using Bu
    by_cases NV:h.link.length≤100
    ·rw[I]at c1
     clear L I J;go_wp2_with fail;refine(iE h.name R).mono ?_;rintro e w1' ⟨rfl,rfl⟩
     by_cases T:h.name.contains 0=true
     ·have A:Hid (fi h=none):=Qh (mf (by unfold lh;rw[T];simp))
      rw[T];clear T;go_wp2;go_ret2;exact⟨H.out.trans E.out,Or.inr ⟨A.out,rfl⟩⟩
     ·have RB:h.name.contains 0=false:=by simpa using T
      have j5:=Qh RB;rw[RB];clear T RB;go_wp2_with fail;refine(iE h.link R).mono ?_;rintro e w1' ⟨rfl,rfl⟩
      by_cases U:h.link.contains 0=true
      ·have A:Hid (fi h=none):=Qh (mf (by unfold lh;rw[U];simp))
       rw[U];clear U;go_wp2;go_ret2;exact⟨H.out.trans E.out,Or.inr ⟨A.out,rfl⟩⟩
      ·have RC:h.link.contains 0=false:=by simpa using U
       have Wi:Hid (lh h=false):=Qh (by
        unfold lh;rw[Wp.out,j5.out,RC];have h1:(h.kind==0)=false:=by simpa using Nb.out
        have h2:¬100<h.link.length:=by omega
        rw[h1]
        simp[h2])
       rw[RC];clear U RC;go_wp2_with fail;refine(vI R).mono ?_;rintro e w2 ⟨B,r,rfl,Z,dt⟩;have ie:=Qh (E.out.trans dt);have MA:Hid (G.heap.size≤R.heap.size):=Qh E.out.size;obtain⟨lo,y⟩:∃lo,lo=R.heap.size:=⟨_,rfl⟩
       rw[←y]at Z;have f:Hid (G.heap.size≤lo):=Qh (by rw[y];exact MA.out);have xy:=Qh Z;have xz:Hid (∀i,i<11→G.heap.size≤r i):=Qh (fun i hi=>Nat.le_trans f.out (Z.lo.2 i hi));clear Z dt y c1;have c2:=cn (ie.out.some_ W.out id);unfold aa at c2;rw[Wp.out]at c2;go_wp2_with fail
       refine Calls.mono (show Calls _ _ _ _ (qm w2 lo B r h fB) by
        have hh:=tS h WV.out lo B r fB w2 xy.out (fun i _ _=>rfl);rw[Wp.out]at hh
        exact hh) ?_
       intro e w3 h3;obtain⟨b,(⟨xW,rfl,MJ⟩|⟨uR,rfl⟩)⟩:=h3
       ·have vz:=Qh xW
        have rE:=Qh MJ
        have rD:=Qh (ie.out.then b (fun k hk=>Or.inl (by
         obtain⟨i,hi,rfl⟩:=hk
         exact xz.out i hi)))
        have Z1:∀(i:Nat) (wa wb:World),i<11→Kept ag G wa→Kept (aA (r i)) wa wb→Kept ag G wb:=fun i wa wb hi ha hb=>ha.then hb (fun k hk=>Or.inl (by
         have h1:k=r i:=hk;rw[h1]
         exact xz.out i hi))
        have M:=Qh Z1;have KY:s.length≤100:=ZG.out.1;have Hf:p.length≤155:=ZG.out.2.1;clear xW MJ b c2 Z1;go_wp2_with fail;refine(gD lo B r _ 0 (str s) w3 (by omega) rE.out).mono ?_;rintro e w4 ⟨rfl,q,lP,-⟩;rw[bg,mh (i:=0) (t:=s) rfl KY]at q;have Ek:=Qh q;have Ei:=Qh (M.out 0 _ _ (by omega) rD.out lP);clear q lP;go_wp2_with fail;refine(gD lo B r _ 10 (str p) w4 (by omega) Ek.out).mono ?_;rintro e X ⟨rfl,z,ik,-⟩;rw[bg,mh (i:=10) (t:=p) rfl Hf]at z;have WD:=Qh z;have OZ:=Qh (M.out 10 _ _ (by omega) Ei.out ik);clear z ik;have c5:=cn (OZ.out.some_ W.out id);unfold aa at c5
        have cvk:(convert 26 9 (.slice (some ⟨X.heap.size,0,none⟩) 1 1)).run Tryz.prog (X.alloc (.cells #[.int .u8 (h.kind.toNat:Int)] 5))=.ok (.string (str [h.kind])) (X.alloc (.cells #[.int .u8 (h.kind.toNat:Int)] 5)):=
         cF (Oo X h.kind) rfl _ _ _ Tryz.underlying26 Tryz.underlying5 Tryz.underlying9 1
        have Zk:=Qh ((Kept.refl ag X).alloc (.cells #[.int .u8 (h.kind.toNat:Int)] 5));go_wp2_with fail;refine(gD lo B r _ 7 (str [h.kind]) _ (by omega) (WD.out.cL Zk.out)).mono ?_;rintro e w6 ⟨rfl,XB,EV,-⟩;rw[bg,mh (i:=7) (t:=[h.kind]) rfl (Qk 1)]at XB;have g:=Qh XB;have Na:=Qh (M.out 7 _ _ (by omega) (OZ.out.trans Zk.out) EV);clear XB EV c5 cvk;have c6:=cn (Na.out.some_ W.out id);unfold aa at c6;go_wp2_with fail;refine(gD lo B r _ 8 (str h.link) w6 (by omega) g.out).mono ?_;rintro e w7 ⟨rfl,XC,uG,-⟩;rw[bg,mh (i:=8) (t:=h.link) rfl NV]at XC;have m:=Qh XC;have c:=Qh (M.out 8 _ _ (by omega) Na.out uG);clear XC uG c6;go_wp2_with fail;refine(gD lo B r _ 9 _ w7 (by omega) m.out).mono ?_;rintro e w8 ⟨rfl,N,V,-⟩;rw[show(ByteArray.mk #[117,115,116,97,114,0,48,48]).data.toList=eA from rfl,mh (i:=9) (t:=eA) rfl (Qk 8)]at N;have d:=Qh (M.out 9 _ _ (by omega) c.out V);obtain⟨own,O⟩:∃own,own=Bz (Bz (Bz (Bz (Bz (tH h fB) 0 (iy (aj 0) s)) 10 (iy (aj 10) p)) 7 (iy (aj 7) [h.kind])) 8 (iy (aj 8) h.link)) 9 (iy (aj 9) eA):=⟨_,rfl⟩
        rw[←O]at N
        have Hd:own=gB h p s:=by
         have D:=tK h p s;refine zI N.fit (wJ KY Hf NV vz.out) fun i hi=>?_
         rw[O];rcases kI hi with rfl|rfl|rfl|rfl|rfl|rfl|rfl|rfl|rfl|rfl|rfl
         ·rw[D.1];rfl
         ·rw[D.2.2.2.2.2.2 1 (by omega) (by omega)];rfl
         ·rw[D.2.2.2.2.2.2 2 (by omega) (by omega)];rfl
         ·rw[D.2.2.2.2.2.2 3 (by omega) (by omega)];rfl
         ·rw[D.2.2.2.2.2.2 4 (by omega) (by omega)];rfl
         ·rw[D.2.2.2.2.2.2 5 (by omega) (by omega)];rfl
         ·rw[D.2.1];rfl
         ·rw[D.2.2.1];rfl
         ·rw[D.2.2.2.1];rfl
         ·rw[D.2.2.2.2.1];rfl
         ·rw[D.2.2.2.2.2.1];rfl
        rw[Hd]at N;have ZA:=Qh N;clear N V O Hd own;go_wp2_with fail;refine(vJ lo B r (gB h p s) w8 ZA.out).mono ?_;rintro e w9 ⟨g1,rfl,Su,hg9,SD⟩;have WE:=Qh (ZA.out.cL SD);have Vt:=Qh (d.out.trans SD);have u:=Su.ib;rw[bV]at u;have Mz:=Qh u;clear Su hg9 SD u
        have hS:((bq (cu (gB h p s)) 512:Nat):Int) - (bq (gB h p s 6) 8:Nat)+256=(dL (cu (gB h p s)) 512:Nat):=by
         have h1:=xi (bs:=cu (gB h p s));rw[kK WE.out.fit (by omega)]at h1;omega
        have hSL:=pn (cu (gB h p s)) 512;obtain⟨S,XH⟩:∃S,S=dL (cu (gB h p s)) 512:=⟨_,rfl⟩
        rw[←XH]at hS hSL;have HS:=Qh hS;have o:=Qh XH;clear hS XH;go_wp2_with fail;refine(yK lo B r (gB h p s) _ 512 512 (cu (gB h p s)) w9 (by omega) Mz.out WE.out).mono ?_;rintro e w9' ⟨rfl,rfl⟩;rw[HS.out];go_wp2_with fail;refine(Ft (S:Int) 7 w9 (WalkArith.wf_i64 (by omega)) (by decide)).mono ?_;rintro e OU ⟨Kv,(⟨l,v,hl,rfl,O⟩|⟨hl,rfl⟩)⟩
        ·obtain⟨p10,Ny,rfl,XS,Yq,rj,_⟩:=Fu rfl hl O
         rw[AK (by omega)]at hl;have hl:=Option.some.inj hl;have Yl:l.length=7:=by rw[←hl];simp[dq]
         have Re:Kept ag w9 OU:=Kept.aR Kv _;have WB:=Qh (WE.out.cL Re);have Ws:=Qh (Vt.out.trans Re);have cs:(convert 26 9 (.slice p10 l.length Ny)).run Tryz.prog OU=.ok (.string (str (bytesOf l))) OU:=cF rj (by rw[bytesOf_length]) _ _ _ Tryz.underlying26 Tryz.underlying5 Tryz.underlying9 Ny;have hsz:(str (bytesOf l)).size=7:=by rw[au,bytesOf_length,Yl]
         have HL:=Qh hl;have HL7:=Qh Yl;clear hl Yl O XS Yq rj Kv Re;go_wp2_with fail;refine(gD lo B r _ 6 _ OU (by omega) WB.out).mono ?_;rintro e R6 ⟨rfl,QS,Uk,-⟩
         have e6:(str (bytesOf l)++⟨#[32]⟩).data.toList=vn S:=by
          rw[show(⟨#[32]⟩:ByteArray)=str [32]from rfl,uq,bg,vn,HL.out]
         rw[e6,List.take_of_length_le (by rw[mB];exact Qk _),jN (by rw[mB,(tK h p s).2.1];rfl),o.out]at QS;have WC:=Qh (show aZ R6 lo B r (rB h p s)from QS);have S3:=Qh (M.out 6 _ _ (by omega) Ws.out Uk);clear QS Uk e6 cs;go_wp2_with fail;refine(vJ lo B r (rB h p s) R6 WC.out).mono ?_;rintro e w12 ⟨g2,rfl,TP,Uf,xV⟩;have WJ:=Qh TP;have Wn:Hid (w.heap.size≤g2):=Qh (Nat.le_trans (Nat.le_trans H.out.size S3.out.size) Uf);have Wt:=Qh (S3.out.trans xV);have Td:=Qh (OC xu.out Wi.out vz.out);clear TP Uf xV;go_wp2;go_ret2;exact⟨H.out.trans Wt.out,Or.inl ⟨_,g2,Td.out,rfl,WJ.out,Wn.out⟩⟩
        ·exfalso
         rw[AK (by omega)]at hl
         cases hl
       ·have A:Hid (fi h=none):=Qh (LN uR)
        have rD:=Qh (ie.out.then b (fun k hk=>Or.inl (by
         obtain⟨i,hi,rfl⟩:=hk
         exact xz.out i hi)))
        clear uR b c2;go_wp2;go_ret2;exact⟨H.out.trans rD.out,Or.inr ⟨A.out,rfl⟩⟩
    ·have Yo:100<h.link.length:=by omega
     have A:Hid (fi h=none):=Qh (mf (by unfold lh;simp[Yo]));rw[I]at c1;clear L I J;go_wp2;go_ret2;exact⟨H.out.trans E.out,Or.inr ⟨A.out,rfl⟩⟩
theorem Mx (p:Option Addr) (n c:Nat) (bs:List UInt8) (w:World) (hm:n≤140737488351232) (h:cD w p n bs):
 Calls Tryz.prog 72 #[.slice p n c] w fun e w'=>e=.returned (.bool (((bq bs n:Nat):Int)==0))∧w=w':=by
 have H:=Qh h;clear h
 go_enter Tryz.func72,Tryz.ntmps72
 go_wp2_with fail
 refine(qe p n c bs w hm H.out).mono ?_;rintro e A ⟨rfl,rfl⟩;go_wp2;go_ret;exact⟨rfl,rfl⟩
end Head
end Go.Proofs.YtdhibldkldlfpaaGreatDoor
