/- Merged. -/
import Derived.Test.YtdhibldkldlfpaaGreatDoorEmitPacksX21
import Derived.Test.YtdhibldkldlfpaaGreatDoorEmitPacksX16
import Derived.WalkSpells
import Derived.Test.YtdhibldkldlfpaaGreatDoorEmitPacksX24
namespace Go.Proofs.YtdhibldkldlfpaaGreatDoor
set_option linter.unusedVariables false
set_option maxHeartbeats 4000000
set_option maxRecDepth 100000
open Go.ChangeShapes Go.WideShapes Go.ChangeAt Go.RowKit Base cf cN Hp Go.Proofs.YtdhibldkldlfpaaGreatDoor.Mp
namespace Head
open rr
variable {name:List UInt8}
def cutV (name:List UInt8):Value:=
 match fR name with
 |some (p,s)=>.tuple #[.string (str p),.string (str s),.bool true]
 |none=>.tuple #[.string ⟨#[]⟩,.string ⟨#[]⟩,.bool false]
theorem jO {p s:List UInt8} (h:fR name=some (p,s)):cutV name=.tuple #[.string (str p),.string (str s),.bool true]:=by rw[cutV,h]
theorem om (h:fR name=none):cutV name=.tuple #[.string ⟨#[]⟩,.string ⟨#[]⟩,.bool false]:=by rw[cutV,h]
theorem uZ (s:ByteArray) (k:Nat):s.extract 0 k=str (s.data.toList.take k):=by
 apply ByteArray.ext;apply Array.toList_inj.1;rw[ByteArray.data_extract,Array.toList_extract];rfl
theorem uY (s:ByteArray) (k:Nat):s.extract k s.size=str (s.data.toList.drop k):=by
 apply ByteArray.ext;apply Array.toList_inj.1;rw[ByteArray.data_extract,Array.toList_extract];show(s.data.toList.drop k).take (s.size - k)=s.data.toList.drop k;rw[List.take_of_length_le];rw[Qe,Array.length_toList];exact Qk _
theorem s_at (s:ByteArray) (k:Nat) (h:k<s.size):s.data.toList.getD k 0=s[k]:=by
 rw[List.getD,Qd (show k<s.data.toList.length by simpa using h)];rfl
theorem Cj (s:ByteArray) (w:World) (hm:s.size≤140737488351232):
 Calls Tryz.prog 125 #[.string s] w fun e w'=>e=.returned (cutV s.data.toList)∧Kept ai w w':=by
 have hlen:s.data.toList.length=s.size:=by simp
 have A:=Qh hlen;clear hlen
 by_cases V:s.size≤100
 ·have E:Hid (cutV s.data.toList=.tuple #[.string ⟨#[]⟩,.string s,.bool true]):=Qh (by
   rw[jO (lX (by rw[A.out];exact V)),nV];rfl)
  go_enter Tryz.func125,Tryz.ntmps125
  go_wp2
  go_ret3
  rw[E.out];exact⟨rfl,Kept.refl _ _⟩
 ·have N:Hid (¬s.data.toList.length≤100):=Qh (by rw[A.out];exact V)
  go_enter Tryz.func125,Tryz.ntmps125
  go_wp2_with fail
  go_loopw [14] (fun i wr=>∃(k:Nat),k≤s.size∧i=.int .i64 k∧Hid (∀j,j<k→¬cV s.data.toList j)∧Hid (Kept ai w wr)) (fun i _=>s.size - (RowKit.intOf i).toNat)
  case atStart=>exact⟨0,Nat.zero_le _,rfl,Qh (fun j U=>by omega),Qh (Kept.refl _ _)⟩
  case round=>
   obtain⟨k,hk,rfl,J,O⟩:=hrel
   by_cases b:k<s.size
   ·have M:Hid (((s[k]).toNat:Int)=((s.data.toList.getD k 0).toNat:Int)):=Qh (by rw[s_at s k b])
    have o:(s.extract 0 k).size=k:=by rw[uZ,ak,Qg,A.out];omega
    have p:(s.extract (k+1) s.size).size=s.size - (k+1):=by rw[uY,ak,Qe,A.out]
    have L:Hid ((¬cV s.data.toList k)→∀j,j<k+1→¬cV s.data.toList j):=Qh (fun h j U=>by
     rcases Nat.lt_succ_iff_lt_or_eq.1 U with c|rfl
     ·exact J.out j c
     ·exact h)
    have Y:=Qh (uZ s k);have Z:=Qh (uY s (k+1));have W:=zy (s[k]);obtain⟨g,q⟩:=W;have G:=Qh (fun nq=>O.out.drewN nq)
    by_cases hc:((s[k]).toNat:Int)=47
    ·have HC:Hid (s.data.toList.getD k 0=47):=Qh (UInt8.toNat_inj.1 (show(s.data.toList.getD k 0).toNat=47 by have:=M.out;omega))
     have X:(((s[k]).toNat:Int)==47)=true:=by simpa using hc
     by_cases T:1≤s.size - (k+1)∧s.size - (k+1)≤100
     ·obtain⟨m,l⟩:=T
      by_cases R:1≤k∧k≤155
      ·obtain⟨H,I⟩:=R
       have hm:Hid (cV s.data.toList k):=Qh ⟨HC.out,H,I,by rw[A.out];omega,by rw[A.out];omega⟩
       have E:Hid (cutV s.data.toList=.tuple #[.string (s.extract 0 k),.string (s.extract (k+1) s.size),.bool true]):=Qh (by
        rw[jO (H7 N.out hm.out J.out),←Y.out,←Z.out])
       go_wp2_with fail
       go_quiet (fail)
       go_wp2_with (go_at_call 152;first|(refine(eW _ _ _ _ (by omega) (by omega)).mono ?_;rintro e B ⟨rfl,rfl⟩)|(refine(j6 _ _ _ _ (by omega)).mono ?_;rintro e B ⟨rfl,rfl⟩))
       go_ret3
       rw[E.out];exact⟨rfl,G.out _⟩
      ·have D:Hid (¬cV s.data.toList k):=Qh (fun h=>R ⟨h.2.1,h.2.2.1⟩)
       go_wp2_with fail
       go_quiet (fail)
       go_wp2_with (go_at_call 152;first|(refine(eW _ _ _ _ (by omega) (by omega)).mono ?_;rintro e B ⟨rfl,rfl⟩)|(refine(j6 _ _ _ _ (by omega)).mono ?_;rintro e B ⟨rfl,rfl⟩))
       go_roundw
       case rel=>exact⟨k+1,by omega,by go_num,Qh (L.out D.out),Qh (G.out _)⟩
       case measure=>simp[RowKit.intOf];omega
     ·have D:Hid (¬cV s.data.toList k):=Qh (fun h=>T (by
       have h1:=h.2.2.2.1;have d:=h.2.2.2.2;rw[A.out]at h1 d
       omega))
      go_wp2_with fail
      go_quiet (fail)
      go_wp2_with (go_at_call 152;first|(refine(eW _ _ _ _ (by omega) (by omega)).mono ?_;rintro e B ⟨rfl,rfl⟩)|(refine(j6 _ _ _ _ (by omega)).mono ?_;rintro e B ⟨rfl,rfl⟩))
      go_roundw
      case rel=>exact⟨k+1,by omega,by go_num,Qh (L.out D.out),Qh (G.out _)⟩
      case measure=>simp[RowKit.intOf];omega
    ·have D:Hid (¬cV s.data.toList k):=Qh (fun h=>hc (by rw[M.out,h.1];rfl))
     have X:(((s[k]).toNat:Int)==47)=false:=by simpa using hc
     go_wp2_with fail
     go_quiet (fail)
     go_wp2_with (go_at_call 152;first|(refine(eW _ _ _ _ (by omega) (by omega)).mono ?_;rintro e B ⟨rfl,rfl⟩)|(refine(j6 _ _ _ _ (by omega)).mono ?_;rintro e B ⟨rfl,rfl⟩))
     go_roundw
     case rel=>exact⟨k+1,by omega,by go_num,Qh (L.out D.out),Qh (G.out _)⟩
     case measure=>simp[RowKit.intOf];omega
   ·have f:Hid (k=s.size):=Qh (by omega)
    have E:Hid (cutV s.data.toList=.tuple #[.string ⟨#[]⟩,.string ⟨#[]⟩,.bool false]):=Qh (om (yu N.out (by
     rw[A.out,←f.out];exact J.out)))
    go_wp2
    go_ret3
    rw[E.out];exact⟨rfl,O.out⟩
theorem Dp (s:ByteArray) (w:World) (hm:s.size≤140737488351232):
 Calls Tryz.prog 89 #[.string s] w fun e w'=>e=.returned (cutV s.data.toList)∧Kept ai w w':=by
 have hlen:s.data.toList.length=s.size:=by simp
 have B:=Qh hlen;clear hlen
 by_cases O:s.size≤100
 ·have E:Hid (cutV s.data.toList=.tuple #[.string ⟨#[]⟩,.string s,.bool true]):=Qh (by
   rw[jO (lX (by rw[B.out];exact O)),nV];rfl)
  go_enter Tryz.func89,Tryz.ntmps89
  go_wp2
  go_ret3
  rw[E.out];exact⟨rfl,Kept.refl _ _⟩
 ·have L:Hid (¬s.data.toList.length≤100):=Qh (by rw[B.out];exact O)
  go_enter Tryz.func89,Tryz.ntmps89
  go_wp2_with fail
  go_loopw [5] (fun i wr=>∃(k:Nat),k≤s.size∧i=.int .i64 k∧Hid (∀j,j<k→¬cV s.data.toList j)∧Hid (Kept ai w wr)) (fun i _=>s.size - (RowKit.intOf i).toNat)
  case atStart=>exact⟨0,Nat.zero_le _,rfl,Qh (fun j N=>by omega),Qh (Kept.refl _ _)⟩
  case round=>
   obtain⟨k,hk,rfl,I,D⟩:=hrel
   by_cases X:k<s.size
   ·have J:Hid (((s[k]).toNat:Int)=((s.data.toList.getD k 0).toNat:Int)):=Qh (by rw[s_at s k X])
    have H:Hid ((¬cV s.data.toList k)→∀j,j<k+1→¬cV s.data.toList j):=Qh (fun h j N=>by
     rcases Nat.lt_succ_iff_lt_or_eq.1 N with b|rfl
     ·exact I.out j b
     ·exact h)
    have U:=Qh (uZ s k);have V:=Qh (uY s (k+1));have R:=zy (s[k]);obtain⟨d,f⟩:=R;have W:=Qh (fun nq=>D.out.drewN nq)
    by_cases hc:((s[k]).toNat:Int)=47
    ·have HC:Hid (s.data.toList.getD k 0=47):=Qh (UInt8.toNat_inj.1 (show(s.data.toList.getD k 0).toNat=47 by have:=J.out;omega))
     have T:(((s[k]).toNat:Int)==47)=true:=by simpa using hc
     by_cases M:0<k
     ·by_cases G:k≤155
      ·by_cases Y:s.size≤k+101
       ·by_cases Z:k+2≤s.size
        ·have hm:Hid (cV s.data.toList k):=Qh ⟨HC.out,M,G,by rw[B.out];omega,by rw[B.out];omega⟩
         have E:Hid (cutV s.data.toList=.tuple #[.string (s.extract 0 k),.string (s.extract (k+1) s.size),.bool true]):=Qh (by
          rw[jO (H7 L.out hm.out I.out),←U.out,←V.out])
         go_wp2_with fail
         go_quiet (fail)
         go_wp2
         go_ret3
         rw[E.out];exact⟨rfl,W.out _⟩
        ·have A:Hid (¬cV s.data.toList k):=Qh (fun h=>Z (by have h1:=h.2.2.2.1;rw[B.out]at h1;exact h1))
         go_wp2;go_roundw
         case rel=>exact⟨k+1,by omega,by go_num,Qh (H.out A.out),D⟩
         case measure=>simp[RowKit.intOf];omega
       ·have A:Hid (¬cV s.data.toList k):=Qh (fun h=>Y (by have h1:=h.2.2.2.2;rw[B.out]at h1;exact h1))
        go_wp2;go_roundw
        case rel=>exact⟨k+1,by omega,by go_num,Qh (H.out A.out),D⟩
        case measure=>simp[RowKit.intOf];omega
      ·have A:Hid (¬cV s.data.toList k):=Qh (fun h=>G h.2.2.1)
       go_wp2;go_roundw
       case rel=>exact⟨k+1,by omega,by go_num,Qh (H.out A.out),D⟩
       case measure=>simp[RowKit.intOf];omega
     ·have A:Hid (¬cV s.data.toList k):=Qh (fun h=>M h.2.1)
      go_wp2;go_roundw
      case rel=>exact⟨k+1,by omega,by go_num,Qh (H.out A.out),D⟩
      case measure=>simp[RowKit.intOf];omega
    ·have A:Hid (¬cV s.data.toList k):=Qh (fun h=>hc (by rw[J.out,h.1];rfl))
     have T:(((s[k]).toNat:Int)==47)=false:=by simpa using hc
     go_wp2;go_roundw
     case rel=>exact⟨k+1,by omega,by go_num,Qh (H.out A.out),D⟩
     case measure=>simp[RowKit.intOf];omega
   ·have c:Hid (k=s.size):=Qh (by omega)
    have E:Hid (cutV s.data.toList=.tuple #[.string ⟨#[]⟩,.string ⟨#[]⟩,.bool false]):=Qh (om (yu L.out (by
     rw[B.out,←c.out];exact I.out)))
    go_wp2
    go_ret3
    rw[E.out];exact⟨rfl,D.out⟩
end Head
namespace Head
open Fp Go.Proofs.YtdhibldkldlfpaaGreatDoor.Field Go.Lib
variable {h:aq}
theorem FJ (l:List UInt8):decide (0≤Lib.indexByte l 0)=l.contains 0:=by
 cases hc:l.contains 0 with
 |true=>
  rw[decide_eq_true_eq];have hm:(0:UInt8)∈l:=by simpa using hc
  obtain⟨k,hk⟩:=List.getElem?_of_mem hm;have B:=Lib.indexByte_ge l 0;rcases Int.lt_or_le (Lib.indexByte l 0) 0 with h|h
  ·exact absurd hk (Lib.indexByte_none (show Lib.indexByte l 0=-1 by omega) k)
  ·exact h
 |false=>
  rw[decide_eq_false_iff_not];intro h;obtain⟨k,hk⟩:∃k:Nat,Lib.indexByte l 0=k:=⟨(Lib.indexByte l 0).toNat,by omega⟩
  have h1:=List.mem_of_getElem? (Lib.indexByte_some hk).1;have A:l.contains 0=true:=by simpa using h1
  rw[hc]at A
  cases A
theorem jC (l:List UInt8) (w:World):Calls Tryz.prog 157 #[.string (str l),.string ⟨#[0]⟩] w fun e w'=>e=.returned (.bool (l.contains 0))∧w=w':=
 (Any.strings_Contains_one Tryz.rN (str l) 0 w).mono fun e w' ⟨h1,h2⟩=>⟨by rw[h1,aU,FJ],h2.symm⟩
theorem nM {own:Nat→List UInt8} {i:Nat} {t:List UInt8} (hz:own i=List.replicate (aj i) 0) (hl:t.length≤aj i):cd (own i) (t.take (aj i))=jx (aj i) t:=by
 rw[hz,List.take_of_length_le hl,jH]
theorem Dl (hc:fR h.name=none):eI h=none:=by unfold eI;rw[hc]
theorem lI (hb:gX h=true):eI h=none:=by
 unfold eI
 cases fR h.name with
 |none=>rfl
 |some ps=>simp only;rw[if_pos (by rw[hb];rfl)]
theorem Dm (hn:eX h=false):eI h=none:=by
 unfold eI
 cases fR h.name with
 |none=>rfl
 |some ps=>simp only;rw[if_pos (by rw[hn];simp)]
theorem I4 {p s:List UInt8} (hc:fR h.name=some (p,s)) (hb:gX h=false) (hn:eX h=true):eI h=some (ba (rS h p s)):=by
 unfold eI;rw[hc];simp only;rw[if_neg (by rw[hb,hn];simp)]
def uH (w:World) (r:Option (List UInt8)) (e:Ending) (w':World):Prop:=
 Kept ai w w'∧((∃bs g,r=some bs∧e=.returned (.tuple #[.slice (some ⟨g,0,none⟩) 512 512,.bool true])∧dE w' g bs∧w.heap.size≤g)∨(r=none∧e=.returned (.tuple #[.slice none 0 0,.bool false])))
theorem SM (w:World) (k:UInt8):cK (w.alloc (.cells #[.int .u8 (k.toNat:Int)] 5)) (some ⟨w.heap.size,0,none⟩) 1 [k]:=fun _=>
 ⟨w.heap.size,0,rfl,fun i hi=>by
  obtain rfl:i=0:=by omega
  rw[World.cell?_alloc_at _ _ _ _ rfl]
  rfl⟩
theorem mB (h:aq) (p s:List UInt8):fq h p s 0=jx 100 s∧fq h p s 6=List.replicate 8 0∧fq h p s 7=[h.kind]∧fq h p s 8=jx 100 h.link∧fq h p s 9=dq∧fq h p s 10=jx 155 p∧∀i,1≤i→i≤5→fq h p s i=xT h i:=by
 refine⟨rfl,rfl,rfl,rfl,rfl,rfl,fun i h1 A=>?_⟩;unfold fq;rw[if_neg (by omega),if_neg (by omega),if_neg (by omega),if_neg (by omega),if_neg (by omega),if_neg (by omega),if_pos A]
theorem PE (h:aq) (IF:∀i,(Lit.int .i64 (ia h i)).wf=true) (Bj:h.name.length≤140737488351232) (vF:h.link.length≤140737488351232) (w:World):
 Calls Tryz.prog 127 #[.agg #[.string (str h.name),.string (str h.link),.int .u8 (h.kind.toNat:Int),.int .i64 h.mode,.int .i64 h.uid,.int .i64 h.gid,.int .i64 h.time,.int .i64 h.size,.bool h.fL]] w (uH w (eI h)):=by
 obtain⟨G,f⟩:∃G,G=w.alloc (.cells #[.string (str h.name),.string (str h.link),.int .u8 (h.kind.toNat:Int),.int .i64 h.mode,.int .i64 h.uid,.int .i64 h.gid,.int .i64 h.time,.int .i64 h.size,.bool h.fL] 66):=⟨_,rfl⟩
 have H:Hid (Kept ai w G):=Qh (by rw[f];exact(Kept.refl _ _).alloc _);have c:Hid (G.heap[w.heap.size]? =some (.cells (af h) 66 (0,0))):=Qh (by rw[f];exact heap_alloc_new _ _);have Rt:=Qh IF;have hls:(str h.link).size=h.link.length:=ak _;clear IF
 go_enter Tryz.func127,Tryz.ntmps127
 go_wp2_with fail
 rw[←f];clear f;refine(Cj (str h.name) G (by rw[ak];exact Bj)).mono ?_;rintro e W ⟨rfl,ej⟩;rw[aU];have E:=Qh ej;clear ej
 cases hcut:fR h.name with
 |none=>
  rw[om hcut];have hR:=Dl hcut;have A:=Qh hR;clear hR hcut;have c1:=bJ (E.out.some_ c.out id);unfold af at c1;go_wp2;go_ret2;exact⟨H.out.trans E.out,Or.inr ⟨A.out,rfl⟩⟩
 |some ps=>
  obtain⟨p,s⟩:=ps;rw[jO hcut];have uC:=Qh hcut;have Rp:=Qh (oh hcut);clear hcut;have c1:=bJ (E.out.some_ c.out id);unfold af at c1
  by_cases R:h.fL=true
  ·have A:Hid (eI h=none):=Qh (lI (by unfold gX;rw[R];rfl))
   rw[R]at c1;clear R;go_wp2;go_ret2;exact⟨H.out.trans E.out,Or.inr ⟨A.out,rfl⟩⟩
  ·have J:h.fL=false:=by simpa using R
   have WQ:=Qh J
   by_cases L:h.kind=0
   ·have A:Hid (eI h=none):=Qh (lI (by unfold gX;rw[J,L];rfl))
    rw[J,L]at c1;have c1:∀i,W.cell? ⟨w.heap.size,i,none⟩=(#[.string (str h.name),.string (str h.link),.int .u8 0,.int .i64 h.mode,.int .i64 h.uid,.int .i64 h.gid,.int .i64 h.time,.int .i64 h.size,.bool false]:Array Value)[i]? :=c1;clear R J L;go_wp2;go_ret2;exact⟨H.out.trans E.out,Or.inr ⟨A.out,rfl⟩⟩
   ·have D4:((h.kind.toNat:Int)==0)=false:=by
     have h1:h.kind.toNat≠0:=fun e=>L (UInt8.toNat_inj.1 e)
     simp;omega
    have Rc:=Qh L;have pb:¬((h.kind.toNat:Int)=0):=by simpa using D4
    by_cases MR:h.link.length≤100
    ·rw[J]at c1
     clear R J L;go_wp2_with fail;refine(jC h.name W).mono ?_;rintro e w1' ⟨rfl,rfl⟩
     by_cases Y:h.name.contains 0=true
     ·have A:Hid (eI h=none):=Qh (lI (by unfold gX;rw[Y];simp))
      rw[Y];clear Y;go_wp2;go_ret2;exact⟨H.out.trans E.out,Or.inr ⟨A.out,rfl⟩⟩
     ·have Wc:h.name.contains 0=false:=by simpa using Y
      have ib:=Qh Wc;rw[Wc];clear Y Wc;go_wp2_with fail;refine(jC h.link W).mono ?_;rintro e w1' ⟨rfl,rfl⟩
      by_cases Z:h.link.contains 0=true
      ·have A:Hid (eI h=none):=Qh (lI (by unfold gX;rw[Z];simp))
       rw[Z];clear Z;go_wp2;go_ret2;exact⟨H.out.trans E.out,Or.inr ⟨A.out,rfl⟩⟩
      ·have Wd:h.link.contains 0=false:=by simpa using Z
       have Jm:Hid (gX h=false):=Qh (by
        unfold gX;rw[WQ.out,ib.out,Wd];have h1:(h.kind==0)=false:=by simpa using Rc.out
        have h2:¬100<h.link.length:=by omega
        rw[h1]
        simp[h2])
       rw[Wd];clear Z Wd;go_wp2_with fail;refine(yn W).mono ?_;rintro e w2 ⟨B,r,rfl,I,dr⟩;have gU:=Qh (E.out.trans dr);have Js:Hid (G.heap.size≤W.heap.size):=Qh E.out.size;obtain⟨lo,m⟩:∃lo,lo=W.heap.size:=⟨_,rfl⟩
       rw[←m]at I;have u:Hid (G.heap.size≤lo):=Qh (by rw[m];exact Js.out);have tE:=Qh I;have tF:Hid (∀i,i<11→G.heap.size≤r i):=Qh (fun i hi=>Nat.le_trans u.out (I.lo.2 i hi));clear I dr m c1;have c2:=bJ (gU.out.some_ c.out id);unfold af at c2;rw[WQ.out]at c2;go_wp2_with fail
       refine Calls.mono (show Calls _ _ _ _ (sy w2 lo B r h ey) by
        have hh:=wM h Rt.out lo B r ey w2 tE.out (fun i _ _=>rfl);rw[WQ.out]at hh
        exact hh) ?_
       intro e w3 h3;obtain⟨g,(⟨Af,rfl,QG⟩|⟨vH,rfl⟩)⟩:=h3
       ·have yg:=Qh Af
        have ku:=Qh QG
        have re:=Qh (gU.out.then g (fun k hk=>Or.inl (by
         obtain⟨i,hi,rfl⟩:=hk
         exact tF.out i hi)))
        have b:∀(i:Nat) (wa wb:World),i<11→Kept ai G wa→Kept (ay (r i)) wa wb→Kept ai G wb:=fun i wa wb hi ha hb=>ha.then hb (fun k hk=>Or.inl (by
         have h1:k=r i:=hk;rw[h1]
         exact tF.out i hi))
        have T:=Qh b;have Cw:s.length≤100:=Rp.out.1;have xI:p.length≤155:=Rp.out.2.1;clear Af QG g c2 b;go_wp2_with fail;refine(iF lo B r _ 0 (str s) w3 (by omega) ku.out).mono ?_;rintro e w4 ⟨rfl,MM,kY,-⟩;rw[aU,nM (i:=0) (t:=s) rfl Cw]at MM;have Bd:=Qh MM;have yf:=Qh (T.out 0 _ _ (by omega) re.out kY);clear MM kY;go_wp2_with fail;refine(iF lo B r _ 10 (str p) w4 (by omega) Bd.out).mono ?_;rintro e d ⟨rfl,TQ,fS,-⟩;rw[aU,nM (i:=10) (t:=p) rfl xI]at TQ;have UK:=Qh TQ;have Jr:=Qh (T.out 10 _ _ (by omega) yf.out fS);clear TQ fS;have c5:=bJ (Jr.out.some_ c.out id);unfold af at c5
        have cvk:(convert 26 9 (.slice (some ⟨d.heap.size,0,none⟩) 1 1)).run Tryz.prog (d.alloc (.cells #[.int .u8 (h.kind.toNat:Int)] 5))=.ok (.string (str [h.kind])) (d.alloc (.cells #[.int .u8 (h.kind.toNat:Int)] 5)):=
         cw (SM d h.kind) rfl _ _ _ Tryz.underlying26 Tryz.underlying5 Tryz.underlying9 1
        have X:=Qh ((Kept.refl ai d).alloc (.cells #[.int .u8 (h.kind.toNat:Int)] 5));go_wp2_with fail;refine(iF lo B r _ 7 (str [h.kind]) _ (by omega) (UK.out.du X.out)).mono ?_;rintro e w6 ⟨rfl,M,xt,-⟩;rw[aU,nM (i:=7) (t:=[h.kind]) rfl (Qk 1)]at M;have X7:=Qh M;have MZ:=Qh (T.out 7 _ _ (by omega) (Jr.out.trans X.out) xt);clear M xt c5 cvk;have c6:=bJ (MZ.out.some_ c.out id);unfold af at c6;go_wp2_with fail;refine(iF lo B r _ 8 (str h.link) w6 (by omega) X7.out).mono ?_;rintro e w7 ⟨rfl,N,tM,-⟩;rw[aU,nM (i:=8) (t:=h.link) rfl MR]at N;have X8:=Qh N;have o:=Qh (T.out 8 _ _ (by omega) MZ.out tM);clear N tM c6;go_wp2_with fail;refine(iF lo B r _ 9 _ w7 (by omega) X8.out).mono ?_;rintro e w8 ⟨rfl,U,Ix,-⟩;rw[show(ByteArray.mk #[117,115,116,97,114,0,48,48]).data.toList=dq from rfl,nM (i:=9) (t:=dq) rfl (Qk 8)]at U;have q:=Qh (T.out 9 _ _ (by omega) o.out Ix);obtain⟨own,V⟩:∃own,own=pR (pR (pR (pR (pR (wE h ey) 0 (jx (aj 0) s)) 10 (jx (aj 10) p)) 7 (jx (aj 7) [h.kind])) 8 (jx (aj 8) h.link)) 9 (jx (aj 9) dq):=⟨_,rfl⟩
        rw[←V]at U
        have yH:own=fq h p s:=by
         have D:=mB h p s;refine vg U.fit (oL Cw xI MR yg.out) fun i hi=>?_
         rw[V];rcases kB hi with rfl|rfl|rfl|rfl|rfl|rfl|rfl|rfl|rfl|rfl|rfl
         ·rw[D.1];rfl
         ·rw[D.2.2.2.2.2.2 1 (by omega) (by omega)];rfl
         ·rw[D.2.2.2.2.2.2 2 (by omega) (by omega)];rfl
         ·rw[D.2.2.2.2.2.2 3 (by omega) (by omega)];rfl
         ·rw[D.2.2.2.2.2.2 4 (by omega) (by omega)];rfl
         ·rw[D.2.2.2.2.2.2 5 (by omega) (by omega)];rfl
         ·rw[D.2.1];rfl
         ·rw[D.2.2.1];rfl
         ·rw[D.2.2.2.1];rfl
         ·rw[D.2.2.2.2.1];rfl
         ·rw[D.2.2.2.2.2.1];rfl
        rw[yH]at U;have Xa:=Qh U;clear U Ix V yH own;go_wp2_with fail;refine(yo lo B r (fq h p s) w8 Xa.out).mono ?_;rintro e w9 ⟨g1,rfl,Xp,hg9,QN⟩;have Ty:=Qh (Xa.out.du QN);have WU:=Qh (q.out.trans QN);have QJ:=Xp.gC;rw[aI]at QJ;have WL:=Qh QJ;clear Xp hg9 QN QJ
        have hS:((bN (ba (fq h p s)) 512:Nat):Int) - (bN (fq h p s 6) 8:Nat)+256=(dc (ba (fq h p s)) 512:Nat):=by
         have h1:=zu (bs:=ba (fq h p s));rw[lZ Ty.out.fit (by omega)]at h1;omega
        have hSL:=nW (ba (fq h p s)) 512;obtain⟨S,O⟩:∃S,S=dc (ba (fq h p s)) 512:=⟨_,rfl⟩
        rw[←O]at hS hSL;have HS:=Qh hS;have y:=Qh O;clear hS O;go_wp2_with fail;refine(AZ lo B r (fq h p s) _ 512 512 (ba (fq h p s)) w9 (by omega) WL.out Ty.out).mono ?_;rintro e w9' ⟨rfl,rfl⟩;rw[HS.out];go_wp2_with fail;refine(I5 (S:Int) 7 w9 (WalkArith.wf_i64 (by omega)) (by decide)).mono ?_;rintro e Tl ⟨YM,(⟨l,v,hl,rfl,V⟩|⟨hl,rfl⟩)⟩
        ·obtain⟨p10,RG,rfl,ae8,ag2,qo,_⟩:=I6 rfl hl V
         rw[qT (by omega)]at hl;have hl:=Option.some.inj hl;have z:l.length=7:=by rw[←hl];simp[cP]
         have KP:Kept ai w9 Tl:=Kept.aO YM _;have Ee:=Qh (Ty.out.du KP);have UC:=Qh (WU.out.trans KP);have cs:(convert 26 9 (.slice p10 l.length RG)).run Tryz.prog Tl=.ok (.string (str (bytesOf l))) Tl:=cw qo (by rw[bytesOf_length]) _ _ _ Tryz.underlying26 Tryz.underlying5 Tryz.underlying9 RG;have hsz:(str (bytesOf l)).size=7:=by rw[ak,bytesOf_length,z]
         have HL:=Qh hl;have HL7:=Qh z;clear hl z V ae8 ag2 qo YM KP;go_wp2_with fail;refine(iF lo B r _ 6 _ Tl (by omega) Ee.out).mono ?_;rintro e XK ⟨rfl,Vv,Ze,-⟩
         have e6:(str (bytesOf l)++⟨#[32]⟩).data.toList=sf S:=by
          rw[show(⟨#[32]⟩:ByteArray)=str [32]from rfl,xf,aU,sf,HL.out]
         rw[e6,List.take_of_length_le (by rw[jf];exact Qk _),gu (by rw[jf,(mB h p s).2.1];rfl),y.out]at Vv;have Ef:=Qh (show bD XK lo B r (rS h p s)from Vv);have XX:=Qh (T.out 6 _ _ (by omega) UC.out Ze);clear Vv Ze e6 cs;go_wp2_with fail;refine(yo lo B r (rS h p s) XK Ef.out).mono ?_;rintro e w12 ⟨g2,rfl,YG,Y7,Ab⟩;have ac9:=Qh YG;have ac3:Hid (w.heap.size≤g2):=Qh (Nat.le_trans (Nat.le_trans H.out.size XX.out.size) Y7);have ac4:=Qh (XX.out.trans Ab);have UL:=Qh (I4 uC.out Jm.out yg.out);clear YG Y7 Ab;go_wp2;go_ret2;exact⟨H.out.trans ac4.out,Or.inl ⟨_,g2,UL.out,rfl,ac9.out,ac3.out⟩⟩
        ·exfalso
         rw[qT (by omega)]at hl
         cases hl
       ·have A:Hid (eI h=none):=Qh (Dm vH)
        have re:=Qh (gU.out.then g (fun k hk=>Or.inl (by
         obtain⟨i,hi,rfl⟩:=hk
         exact tF.out i hi)))
        clear vH g c2;go_wp2;go_ret2;exact⟨H.out.trans re.out,Or.inr ⟨A.out,rfl⟩⟩
    ·have ag0:100<h.link.length:=by omega
     have A:Hid (eI h=none):=Qh (lI (by unfold gX;simp[ag0]));rw[J]at c1;clear R J L;go_wp2;go_ret2;exact⟨H.out.trans E.out,Or.inr ⟨A.out,rfl⟩⟩
theorem Qy (p:Option Addr) (n c:Nat) (bs:List UInt8) (w:World) (hm:n≤140737488351232) (h:cK w p n bs):
 Calls Tryz.prog 72 #[.slice p n c] w fun e w'=>e=.returned (.bool (((bN bs n:Nat):Int)==0))∧w=w':=by
 have H:=Qh h;clear h
 go_enter Tryz.func72,Tryz.ntmps72
 go_wp2_with fail
 refine(sj p n c bs w hm H.out).mono ?_;rintro e A ⟨rfl,rfl⟩;go_wp2;go_ret;exact⟨rfl,rfl⟩
end Head
end Go.Proofs.YtdhibldkldlfpaaGreatDoor
