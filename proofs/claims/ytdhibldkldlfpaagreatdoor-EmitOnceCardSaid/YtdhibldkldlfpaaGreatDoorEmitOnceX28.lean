/- Merged. -/
import Derived.Test.YtdhibldkldlfpaaGreatDoorEmitOnceX21
import Derived.Test.YtdhibldkldlfpaaGreatDoorEmitOnceX16
import Derived.WalkSpells
import Derived.Test.YtdhibldkldlfpaaGreatDoorEmitOnceX24
namespace Go.Proofs.YtdhibldkldlfpaaGreatDoor
set_option linter.unusedVariables false
set_option maxHeartbeats 4000000
set_option maxRecDepth 100000
open Go.ChangeShapes Go.WideShapes Go.ChangeAt Go.RowKit Base bJ cr Hp Go.Proofs.YtdhibldkldlfpaaGreatDoor.Mp
namespace Head
open qR
variable {name:List UInt8}
def cutV (name:List UInt8):Value:=
 match fH name with
 |some (p,s)=>.tuple #[.string (str p),.string (str s),.bool true]
 |none=>.tuple #[.string ⟨#[]⟩,.string ⟨#[]⟩,.bool false]
theorem oZ {p s:List UInt8} (h:fH name=some (p,s)):cutV name=.tuple #[.string (str p),.string (str s),.bool true]:=by rw[cutV,h]
theorem uG (h:fH name=none):cutV name=.tuple #[.string ⟨#[]⟩,.string ⟨#[]⟩,.bool false]:=by rw[cutV,h]
theorem yr (s:ByteArray) (k:Nat):s.extract 0 k=str (s.data.toList.take k):=by
 apply ByteArray.ext;apply Array.toList_inj.1;rw[ByteArray.data_extract,Array.toList_extract];rfl
theorem yq (s:ByteArray) (k:Nat):s.extract k s.size=str (s.data.toList.drop k):=by
 apply ByteArray.ext;apply Array.toList_inj.1;rw[ByteArray.data_extract,Array.toList_extract];show(s.data.toList.drop k).take (s.size - k)=s.data.toList.drop k;rw[List.take_of_length_le];rw[Qe,Array.length_toList];exact Qk _
theorem s_at (s:ByteArray) (k:Nat) (h:k<s.size):s.data.toList.getD k 0=s[k]:=by
 rw[List.getD,Qd (show k<s.data.toList.length by simpa using h)];rfl
theorem yC (s:ByteArray) (w:World) (hm:s.size≤140737488351232):
 Calls Tryz.prog 125 #[.string s] w fun e w'=>e=.returned (cutV s.data.toList)∧Kept af w w':=by
 have hlen:s.data.toList.length=s.size:=by simp
 have A:=Qh hlen;clear hlen
 by_cases M:s.size≤100
 ·have E:Hid (cutV s.data.toList=.tuple #[.string ⟨#[]⟩,.string s,.bool true]):=Qh (by
   rw[oZ (mZ (by rw[A.out];exact M)),PS];rfl)
  go_enter Tryz.func125,Tryz.ntmps125
  go_wp2
  go_ret3
  rw[E.out];exact⟨rfl,Kept.refl _ _⟩
 ·have L:Hid (¬s.data.toList.length≤100):=Qh (by rw[A.out];exact M)
  go_enter Tryz.func125,Tryz.ntmps125
  go_wp2_with fail
  go_loopw [14] (fun i wr=>∃(k:Nat),k≤s.size∧i=.int .i64 k∧Hid (∀j,j<k→¬dM s.data.toList j)∧Hid (Kept af w wr)) (fun i _=>s.size - (RowKit.intOf i).toNat)
  case atStart=>exact⟨0,Nat.zero_le _,rfl,Qh (fun j U=>by omega),Qh (Kept.refl _ _)⟩
  case round=>
   obtain⟨k,hk,rfl,J,O⟩:=hrel
   by_cases b:k<s.size
   ·have N:Hid (((s[k]).toNat:Int)=((s.data.toList.getD k 0).toNat:Int)):=Qh (by rw[s_at s k b])
    have o:(s.extract 0 k).size=k:=by rw[yr,aA,Qg,A.out];omega
    have p:(s.extract (k+1) s.size).size=s.size - (k+1):=by rw[yq,aA,Qe,A.out]
    have H:Hid ((¬dM s.data.toList k)→∀j,j<k+1→¬dM s.data.toList j):=Qh (fun h j U=>by
     rcases Nat.lt_succ_iff_lt_or_eq.1 U with c|rfl
     ·exact J.out j c
     ·exact h)
    have V:=Qh (yr s k);have W:=Qh (yq s (k+1));have X:=KB (s[k]);obtain⟨g,q⟩:=X;have G:=Qh (fun nq=>O.out.drewN nq)
    by_cases hc:((s[k]).toNat:Int)=47
    ·have HC:Hid (s.data.toList.getD k 0=47):=Qh (UInt8.toNat_inj.1 (show(s.data.toList.getD k 0).toNat=47 by have:=N.out;omega))
     have Z:(((s[k]).toNat:Int)==47)=true:=by simpa using hc
     by_cases T:1≤s.size - (k+1)∧s.size - (k+1)≤100
     ·obtain⟨l,m⟩:=T
      by_cases R:1≤k∧k≤155
      ·obtain⟨Y,I⟩:=R
       have hm:Hid (dM s.data.toList k):=Qh ⟨HC.out,Y,I,by rw[A.out];omega,by rw[A.out];omega⟩
       have E:Hid (cutV s.data.toList=.tuple #[.string (s.extract 0 k),.string (s.extract (k+1) s.size),.bool true]):=Qh (by
        rw[oZ (LA L.out hm.out J.out),←V.out,←W.out])
       go_wp2_with fail
       go_quiet (fail)
       go_wp2_with (go_at_call 152;first|(refine(dB _ _ _ _ (by omega) (by omega)).mono ?_;rintro e B ⟨rfl,rfl⟩)|(refine(iJ _ _ _ _ (by omega)).mono ?_;rintro e B ⟨rfl,rfl⟩))
       go_ret3
       rw[E.out];exact⟨rfl,G.out _⟩
      ·have D:Hid (¬dM s.data.toList k):=Qh (fun h=>R ⟨h.2.1,h.2.2.1⟩)
       go_wp2_with fail
       go_quiet (fail)
       go_wp2_with (go_at_call 152;first|(refine(dB _ _ _ _ (by omega) (by omega)).mono ?_;rintro e B ⟨rfl,rfl⟩)|(refine(iJ _ _ _ _ (by omega)).mono ?_;rintro e B ⟨rfl,rfl⟩))
       go_roundw
       case rel=>exact⟨k+1,by omega,by go_num,Qh (H.out D.out),Qh (G.out _)⟩
       case measure=>simp[RowKit.intOf];omega
     ·have D:Hid (¬dM s.data.toList k):=Qh (fun h=>T (by
       have h1:=h.2.2.2.1;have d:=h.2.2.2.2;rw[A.out]at h1 d
       omega))
      go_wp2_with fail
      go_quiet (fail)
      go_wp2_with (go_at_call 152;first|(refine(dB _ _ _ _ (by omega) (by omega)).mono ?_;rintro e B ⟨rfl,rfl⟩)|(refine(iJ _ _ _ _ (by omega)).mono ?_;rintro e B ⟨rfl,rfl⟩))
      go_roundw
      case rel=>exact⟨k+1,by omega,by go_num,Qh (H.out D.out),Qh (G.out _)⟩
      case measure=>simp[RowKit.intOf];omega
    ·have D:Hid (¬dM s.data.toList k):=Qh (fun h=>hc (by rw[N.out,h.1];rfl))
     have Z:(((s[k]).toNat:Int)==47)=false:=by simpa using hc
     go_wp2_with fail
     go_quiet (fail)
     go_wp2_with (go_at_call 152;first|(refine(dB _ _ _ _ (by omega) (by omega)).mono ?_;rintro e B ⟨rfl,rfl⟩)|(refine(iJ _ _ _ _ (by omega)).mono ?_;rintro e B ⟨rfl,rfl⟩))
     go_roundw
     case rel=>exact⟨k+1,by omega,by go_num,Qh (H.out D.out),Qh (G.out _)⟩
     case measure=>simp[RowKit.intOf];omega
   ·have f:Hid (k=s.size):=Qh (by omega)
    have E:Hid (cutV s.data.toList=.tuple #[.string ⟨#[]⟩,.string ⟨#[]⟩,.bool false]):=Qh (uG (Fb L.out (by
     rw[A.out,←f.out];exact J.out)))
    go_wp2
    go_ret3
    rw[E.out];exact⟨rfl,O.out⟩
end Head
namespace Head
open Fp Go.Proofs.YtdhibldkldlfpaaGreatDoor.Field Go.Lib
variable {h:ak}
theorem BG (l:List UInt8):decide (0≤Lib.indexByte l 0)=l.contains 0:=by
 cases hc:l.contains 0 with
 |true=>
  rw[decide_eq_true_eq];have hm:(0:UInt8)∈l:=by simpa using hc
  obtain⟨k,hk⟩:=List.getElem?_of_mem hm;have B:=Lib.indexByte_ge l 0;rcases Int.lt_or_le (Lib.indexByte l 0) 0 with h|h
  ·exact absurd hk (Lib.indexByte_none (show Lib.indexByte l 0=-1 by omega) k)
  ·exact h
 |false=>
  rw[decide_eq_false_iff_not];intro h;obtain⟨k,hk⟩:∃k:Nat,Lib.indexByte l 0=k:=⟨(Lib.indexByte l 0).toNat,by omega⟩
  have h1:=List.mem_of_getElem? (Lib.indexByte_some hk).1;have A:l.contains 0=true:=by simpa using h1
  rw[hc]at A
  cases A
theorem ia (l:List UInt8) (w:World):Calls Tryz.prog 157 #[.string (str l),.string ⟨#[0]⟩] w fun e w'=>e=.returned (.bool (l.contains 0))∧w=w':=
 (Any.strings_Contains_one Tryz.pf (str l) 0 w).mono fun e w' ⟨h1,h2⟩=>⟨by rw[h1,bg,BG],h2.symm⟩
theorem lK {own:Nat→List UInt8} {i:Nat} {t:List UInt8} (hz:own i=List.replicate (aj i) 0) (hl:t.length≤aj i):eH (own i) (t.take (aj i))=gU (aj i) t:=by
 rw[hz,List.take_of_length_le hl,xp]
theorem J7 (hc:fH h.name=none):eE h=none:=by unfold eE;rw[hc]
theorem lJ (hb:kK h=true):eE h=none:=by
 unfold eE
 cases fH h.name with
 |none=>rfl
 |some ps=>simp only;rw[if_pos (by rw[hb];rfl)]
theorem J8 (hn:eA h=false):eE h=none:=by
 unfold eE
 cases fH h.name with
 |none=>rfl
 |some ps=>simp only;rw[if_pos (by rw[hn];simp)]
theorem Mz {p s:List UInt8} (hc:fH h.name=some (p,s)) (hb:kK h=false) (hn:eA h=true):eE h=some (ca (qM h p s)):=by
 unfold eE;rw[hc];simp only;rw[if_neg (by rw[hb,hn];simp)]
def Ia (w:World) (r:Option (List UInt8)) (e:Ending) (w':World):Prop:=
 Kept af w w'∧((∃bs g,r=some bs∧e=.returned (.tuple #[.slice (some ⟨g,0,none⟩) 512 512,.bool true])∧dS w' g bs∧w.heap.size≤g)∨(r=none∧e=.returned (.tuple #[.slice none 0 0,.bool false])))
theorem Mo (w:World) (k:UInt8):cj (w.alloc (.cells #[.int .u8 (k.toNat:Int)] 5)) (some ⟨w.heap.size,0,none⟩) 1 [k]:=fun _=>
 ⟨w.heap.size,0,rfl,fun i hi=>by
  obtain rfl:i=0:=by omega
  rw[World.cell?_alloc_at _ _ _ _ rfl]
  rfl⟩
theorem sP (h:ak) (p s:List UInt8):fS h p s 0=gU 100 s∧fS h p s 6=List.replicate 8 0∧fS h p s 7=[h.kind]∧fS h p s 8=gU 100 h.link∧fS h p s 9=dO∧fS h p s 10=gU 155 p∧∀i,1≤i→i≤5→fS h p s i=Cb h i:=by
 refine⟨rfl,rfl,rfl,rfl,rfl,rfl,fun i h1 A=>?_⟩;unfold fS;rw[if_neg (by omega),if_neg (by omega),if_neg (by omega),if_neg (by omega),if_neg (by omega),if_neg (by omega),if_pos A]
theorem J4 (h:ak) (Pn:∀i,(Lit.int .i64 (jB h i)).wf=true) (Hq:h.name.length≤140737488351232) (Hn:h.link.length≤140737488351232) (w:World):
 Calls Tryz.prog 127 #[.agg #[.string (str h.name),.string (str h.link),.int .u8 (h.kind.toNat:Int),.int .i64 h.mode,.int .i64 h.uid,.int .i64 h.gid,.int .i64 h.time,.int .i64 h.size,.bool h.eG]] w (Ia w (eE h)):=by
 obtain⟨G,X⟩:∃G,G=w.alloc (.cells #[.string (str h.name),.string (str h.link),.int .u8 (h.kind.toNat:Int),.int .i64 h.mode,.int .i64 h.uid,.int .i64 h.gid,.int .i64 h.time,.int .i64 h.size,.bool h.eG] 66):=⟨_,rfl⟩
 have H:Hid (Kept af w G):=Qh (by rw[X];exact(Kept.refl _ _).alloc _);have V:Hid (G.heap[w.heap.size]? =some (.cells (aa h) 66 (0,0))):=Qh (by rw[X];exact heap_alloc_new _ _);have U7:=Qh Pn;have hls:(str h.link).size=h.link.length:=aA _;clear Pn
 go_enter Tryz.func127,Tryz.ntmps127
 go_wp2_with fail
 rw[←X];clear X;refine(yC (str h.name) G (by rw[aA];exact Hq)).mono ?_;rintro e R ⟨rfl,dV⟩;rw[bg];have E:=Qh dV;clear dV
 cases hcut:fH h.name with
 |none=>
  rw[uG hcut];have hR:=J7 hcut;have A:=Qh hR;clear hR hcut;have c1:=bZ (E.out.some_ V.out id);unfold aa at c1;go_wp2;go_ret2;exact⟨H.out.trans E.out,Or.inr ⟨A.out,rfl⟩⟩
 |some ps=>
  obtain⟨p,s⟩:=ps;rw[oZ hcut];have vR:=Qh hcut;have XI:=Qh (oY hcut);clear hcut;have c1:=bZ (E.out.some_ V.out id);unfold aa at c1
  by_cases L:h.eG=true
  ·have A:Hid (eE h=none):=Qh (lJ (by unfold kK;rw[L];rfl))
   rw[L]at c1;clear L;go_wp2;go_ret2;exact⟨H.out.trans E.out,Or.inr ⟨A.out,rfl⟩⟩
  ·have I:h.eG=false:=by simpa using L
   have y:=Qh I
   by_cases J:h.kind=0
   ·have A:Hid (eE h=none):=Qh (lJ (by unfold kK;rw[I,J];rfl))
    rw[I,J]at c1;have c1:∀i,R.cell? ⟨w.heap.size,i,none⟩=(#[.string (str h.name),.string (str h.link),.int .u8 0,.int .i64 h.mode,.int .i64 h.uid,.int .i64 h.gid,.int .i64 h.time,.int .i64 h.size,.bool false]:Array Value)[i]? :=c1;clear L I J;go_wp2;go_ret2;exact⟨H.out.trans E.out,Or.inr ⟨A.out,rfl⟩⟩
   ·have Hl:((h.kind.toNat:Int)==0)=false:=by
     have h1:h.kind.toNat≠0:=fun e=>J (UInt8.toNat_inj.1 e)
     simp;omega
    have Lc:=Qh J;have qG:¬((h.kind.toNat:Int)=0):=by simpa using Hl
    by_cases LY:h.link.length≤100
    ·rw[I]at c1
     clear L I J;go_wp2_with fail;refine(ia h.name R).mono ?_;rintro e w1' ⟨rfl,rfl⟩
     by_cases U:h.name.contains 0=true
     ·have A:Hid (eE h=none):=Qh (lJ (by unfold kK;rw[U];simp))
      rw[U];clear U;go_wp2;go_ret2;exact⟨H.out.trans E.out,Or.inr ⟨A.out,rfl⟩⟩
     ·have o:h.name.contains 0=false:=by simpa using U
      have jG:=Qh o;rw[o];clear U o;go_wp2_with fail;refine(ia h.link R).mono ?_;rintro e w1' ⟨rfl,rfl⟩
      by_cases T:h.link.contains 0=true
      ·have A:Hid (eE h=none):=Qh (lJ (by unfold kK;rw[T];simp))
       rw[T];clear T;go_wp2;go_ret2;exact⟨H.out.trans E.out,Or.inr ⟨A.out,rfl⟩⟩
      ·have q:h.link.contains 0=false:=by simpa using T
       have Ur:Hid (kK h=false):=Qh (by
        unfold kK;rw[y.out,jG.out,q];have h1:(h.kind==0)=false:=by simpa using Lc.out
        have h2:¬100<h.link.length:=by omega
        rw[h1]
        simp[h2])
       rw[q];clear T q;go_wp2_with fail;refine(uB R).mono ?_;rintro e w2 ⟨B,r,rfl,Y,cU⟩;have gJ:=Qh (E.out.trans cU);have KJ:Hid (G.heap.size≤R.heap.size):=Qh E.out.size;obtain⟨lo,d⟩:∃lo,lo=R.heap.size:=⟨_,rfl⟩
       rw[←d]at Y;have ZB:Hid (G.heap.size≤lo):=Qh (by rw[d];exact KJ.out);have vV:=Qh Y;have vW:Hid (∀i,i<11→G.heap.size≤r i):=Qh (fun i hi=>Nat.le_trans ZB.out (Y.lo.2 i hi));clear Y cU d c1;have c2:=bZ (gJ.out.some_ V.out id);unfold aa at c2;rw[y.out]at c2;go_wp2_with fail
       refine Calls.mono (show Calls _ _ _ _ (pH w2 lo B r h eW) by
        have hh:=sZ h U7.out lo B r eW w2 vV.out (fun i _ _=>rfl);rw[y.out]at hh
        exact hh) ?_
       intro e w3 h3;obtain⟨Z,(⟨wP,rfl,KN⟩|⟨tV,rfl⟩)⟩:=h3
       ·have Ty:=Qh wP
        have qP:=Qh KN
        have qO:=Qh (gJ.out.then Z (fun k hk=>Or.inl (by
         obtain⟨i,hi,rfl⟩:=hk
         exact vW.out i hi)))
        have X2:∀(i:Nat) (wa wb:World),i<11→Kept af G wa→Kept (aw (r i)) wa wb→Kept af G wb:=fun i wa wb hi ha hb=>ha.then hb (fun k hk=>Or.inl (by
         have h1:k=r i:=hk;rw[h1]
         exact vW.out i hi))
        have M:=Qh X2;have Jo:s.length≤100:=XI.out.1;have L2:p.length≤155:=XI.out.2.1;clear wP KN Z c2 X2;go_wp2_with fail;refine(fU lo B r _ 0 (str s) w3 (by omega) qP.out).mono ?_;rintro e w4 ⟨rfl,b,lg,-⟩;rw[bg,lK (i:=0) (t:=s) rfl Jo]at b;have C6:=Qh b;have C4:=Qh (M.out 0 _ _ (by omega) qO.out lg);clear b lg;go_wp2_with fail;refine(fU lo B r _ 10 (str p) w4 (by omega) C6.out).mono ?_;rintro e W ⟨rfl,f,gM,-⟩;rw[bg,lK (i:=10) (t:=p) rfl L2]at f;have UO:=Qh f;have MS:=Qh (M.out 10 _ _ (by omega) C4.out gM);clear f gM;have c5:=bZ (MS.out.some_ V.out id);unfold aa at c5
        have Z0:(convert 26 9 (.slice (some ⟨W.heap.size,0,none⟩) 1 1)).run Tryz.prog (W.alloc (.cells #[.int .u8 (h.kind.toNat:Int)] 5))=.ok (.string (str [h.kind])) (W.alloc (.cells #[.int .u8 (h.kind.toNat:Int)] 5)):=
         cK (Mo W h.kind) rfl _ _ _ Tryz.underlying26 Tryz.underlying5 Tryz.underlying9 1
        have Xm:=Qh ((Kept.refl af W).alloc (.cells #[.int .u8 (h.kind.toNat:Int)] 5));go_wp2_with fail;refine(fU lo B r _ 7 (str [h.kind]) _ (by omega) (UO.out.cz Xm.out)).mono ?_;rintro e w6 ⟨rfl,Vz,Dz,-⟩;rw[bg,lK (i:=7) (t:=[h.kind]) rfl (Qk 1)]at Vz;have Tz:=Qh Vz;have Lb:=Qh (M.out 7 _ _ (by omega) (MS.out.trans Xm.out) Dz);clear Vz Dz c5 Z0;have c6:=bZ (Lb.out.some_ V.out id);unfold aa at c6;go_wp2_with fail;refine(fU lo B r _ 8 (str h.link) w6 (by omega) Tz.out).mono ?_;rintro e w7 ⟨rfl,VA,tK,-⟩;rw[bg,lK (i:=8) (t:=h.link) rfl LY]at VA;have ZH:=Qh VA;have Zv:=Qh (M.out 8 _ _ (by omega) Lb.out tK);clear VA tK c6;go_wp2_with fail;refine(fU lo B r _ 9 _ w7 (by omega) ZH.out).mono ?_;rintro e w8 ⟨rfl,N,Yx,-⟩;rw[show(ByteArray.mk #[117,115,116,97,114,0,48,48]).data.toList=dO from rfl,lK (i:=9) (t:=dO) rfl (Qk 8)]at N;have Zw:=Qh (M.out 9 _ _ (by omega) Zv.out Yx);obtain⟨own,O⟩:∃own,own=Aa (Aa (Aa (Aa (Aa (sM h eW) 0 (gU (aj 0) s)) 10 (gU (aj 10) p)) 7 (gU (aj 7) [h.kind])) 8 (gU (aj 8) h.link)) 9 (gU (aj 9) dO):=⟨_,rfl⟩
        rw[←O]at N
        have FM:own=fS h p s:=by
         have D:=sP h p s;refine yw N.fit (vk Jo L2 LY Ty.out) fun i hi=>?_
         rw[O];rcases ke hi with rfl|rfl|rfl|rfl|rfl|rfl|rfl|rfl|rfl|rfl|rfl
         ·rw[D.1];rfl
         ·rw[D.2.2.2.2.2.2 1 (by omega) (by omega)];rfl
         ·rw[D.2.2.2.2.2.2 2 (by omega) (by omega)];rfl
         ·rw[D.2.2.2.2.2.2 3 (by omega) (by omega)];rfl
         ·rw[D.2.2.2.2.2.2 4 (by omega) (by omega)];rfl
         ·rw[D.2.2.2.2.2.2 5 (by omega) (by omega)];rfl
         ·rw[D.2.1];rfl
         ·rw[D.2.2.1];rfl
         ·rw[D.2.2.2.1];rfl
         ·rw[D.2.2.2.2.1];rfl
         ·rw[D.2.2.2.2.2.1];rfl
        rw[FM]at N;have XC:=Qh N;clear N Yx O FM own;go_wp2_with fail;refine(uC lo B r (fS h p s) w8 XC.out).mono ?_;rintro e w9 ⟨g1,rfl,Qs,hg9,u⟩;have z:=Qh (XC.out.cz u);have Tu:=Qh (Zw.out.trans u);have c:=Qs.iZ;rw[bD]at c;have PW:=Qh c;clear Qs hg9 u c
        have hS:((aZ (ca (fS h p s)) 512:Nat):Int) - (aZ (fS h p s 6) 8:Nat)+256=(dj (ca (fS h p s)) 512:Nat):=by
         have h1:=vH (bs:=ca (fS h p s));rw[kg z.out.fit (by omega)]at h1;omega
        have hSL:=oJ (ca (fS h p s)) 512;obtain⟨S,VG⟩:∃S,S=dj (ca (fS h p s)) 512:=⟨_,rfl⟩
        rw[←VG]at hS hSL;have HS:=Qh hS;have ZL:=Qh VG;clear hS VG;go_wp2_with fail;refine(xC lo B r (fS h p s) _ 512 512 (ca (fS h p s)) w9 (by omega) PW.out z.out).mono ?_;rintro e w9' ⟨rfl,rfl⟩;rw[HS.out];go_wp2_with fail;refine(DZ (S:Int) 7 w9 (WalkArith.wf_i64 (by omega)) (by decide)).mono ?_;rintro e PT ⟨RO,(⟨l,v,hl,rfl,O⟩|⟨hl,rfl⟩)⟩
        ·obtain⟨p10,Lx,rfl,VR,Wo,qC,_⟩:=D0 rfl hl O
         rw[zp (by omega)]at hl;have hl:=Option.some.inj hl;have Wj:l.length=7:=by rw[←hl];simp[cL]
         have g:Kept af w9 PT:=Kept.aM RO _;have UM:=Qh (z.out.cz g);have UE:=Qh (Tu.out.trans g);have cs:(convert 26 9 (.slice p10 l.length Lx)).run Tryz.prog PT=.ok (.string (str (bytesOf l))) PT:=cK qC (by rw[bytesOf_length]) _ _ _ Tryz.underlying26 Tryz.underlying5 Tryz.underlying9 Lx;have hsz:(str (bytesOf l)).size=7:=by rw[aA,bytesOf_length,Wj]
         have HL:=Qh hl;have HL7:=Qh Wj;clear hl Wj O VR Wo qC RO g;go_wp2_with fail;refine(fU lo B r _ 6 _ PT (by omega) UM.out).mono ?_;rintro e QL ⟨rfl,m,Sg,-⟩
         have e6:(str (bytesOf l)++⟨#[32]⟩).data.toList=uk S:=by
          rw[show(⟨#[32]⟩:ByteArray)=str [32]from rfl,tx,bg,uk,HL.out]
         rw[e6,List.take_of_length_le (by rw[lS];exact Qk _),jq (by rw[lS,(sP h p s).2.1];rfl),ZL.out]at m;have UN:=Qh (show aT QL lo B r (qM h p s)from m);have QT:=Qh (M.out 6 _ _ (by omega) UE.out Sg);clear m Sg e6 cs;go_wp2_with fail;refine(uC lo B r (qM h p s) QL UN.out).mono ?_;rintro e Zg ⟨g2,rfl,RF,Sa,wO⟩;have UU:=Qh RF;have Uz:Hid (w.heap.size≤g2):=Qh (Nat.le_trans (Nat.le_trans H.out.size QT.out.size) Sa);have UF:=Qh (QT.out.trans wO);have Q5:=Qh (Mz vR.out Ur.out Ty.out);clear RF Sa wO;go_wp2;go_ret2;exact⟨H.out.trans UF.out,Or.inl ⟨_,g2,Q5.out,rfl,UU.out,Uz.out⟩⟩
        ·exfalso
         rw[zp (by omega)]at hl
         cases hl
       ·have A:Hid (eE h=none):=Qh (J8 tV)
        have qO:=Qh (gJ.out.then Z (fun k hk=>Or.inl (by
         obtain⟨i,hi,rfl⟩:=hk
         exact vW.out i hi)))
        clear tV Z c2;go_wp2;go_ret2;exact⟨H.out.trans qO.out,Or.inr ⟨A.out,rfl⟩⟩
    ·have Wm:100<h.link.length:=by omega
     have A:Hid (eE h=none):=Qh (lJ (by unfold kK;simp[Wm]));rw[I]at c1;clear L I J;go_wp2;go_ret2;exact⟨H.out.trans E.out,Or.inr ⟨A.out,rfl⟩⟩
theorem KH (p:Option Addr) (n c:Nat) (bs:List UInt8) (w:World) (hm:n≤140737488351232) (h:cj w p n bs):
 Calls Tryz.prog 72 #[.slice p n c] w fun e w'=>e=.returned (.bool (((aZ bs n:Nat):Int)==0))∧w=w':=by
 have H:=Qh h;clear h
 go_enter Tryz.func72,Tryz.ntmps72
 go_wp2_with fail
 refine(pz p n c bs w hm H.out).mono ?_;rintro e A ⟨rfl,rfl⟩;go_wp2;go_ret;exact⟨rfl,rfl⟩
end Head
end Go.Proofs.YtdhibldkldlfpaaGreatDoor
