/- Merged. -/
import Derived.Test.YtdhibldkldlfpaaGreatDoorEmitLeastX21
import Derived.Test.YtdhibldkldlfpaaGreatDoorEmitLeastX16
import Derived.WalkSpells
import Derived.Test.YtdhibldkldlfpaaGreatDoorEmitLeastX24
namespace Go.Proofs.YtdhibldkldlfpaaGreatDoor
set_option linter.unusedVariables false
set_option maxHeartbeats 4000000
set_option maxRecDepth 100000
open Go.ChangeShapes Go.WideShapes Go.ChangeAt Go.RowKit Base bJ cn Hp Go.Proofs.YtdhibldkldlfpaaGreatDoor.Mp
namespace Head
open qd
variable {name:List UInt8}
def cutV (name:List UInt8):Value:=
 match gh name with
 |some (p,s)=>.tuple #[.string (str p),.string (str s),.bool true]
 |none=>.tuple #[.string ⟨#[]⟩,.string ⟨#[]⟩,.bool false]
theorem pA {p s:List UInt8} (h:gh name=some (p,s)):cutV name=.tuple #[.string (str p),.string (str s),.bool true]:=by rw[cutV,h]
theorem vz (h:gh name=none):cutV name=.tuple #[.string ⟨#[]⟩,.string ⟨#[]⟩,.bool false]:=by rw[cutV,h]
theorem zg (s:ByteArray) (k:Nat):s.extract 0 k=str (s.data.toList.take k):=by
 apply ByteArray.ext;apply Array.toList_inj.1;rw[ByteArray.data_extract,Array.toList_extract];rfl
theorem zf (s:ByteArray) (k:Nat):s.extract k s.size=str (s.data.toList.drop k):=by
 apply ByteArray.ext;apply Array.toList_inj.1;rw[ByteArray.data_extract,Array.toList_extract];show(s.data.toList.drop k).take (s.size - k)=s.data.toList.drop k;rw[List.take_of_length_le];rw[Qe,Array.length_toList];exact Qk _
theorem s_at (s:ByteArray) (k:Nat) (h:k<s.size):s.data.toList.getD k 0=s[k]:=by
 rw[List.getD,Qd (show k<s.data.toList.length by simpa using h)];rfl
theorem zr (s:ByteArray) (w:World) (hm:s.size≤140737488351232):
 Calls Tryz.prog 125 #[.string s] w fun e w'=>e=.returned (cutV s.data.toList)∧Kept ag w w':=by
 have hlen:s.data.toList.length=s.size:=by simp
 have A:=Qh hlen;clear hlen
 by_cases M:s.size≤100
 ·have E:Hid (cutV s.data.toList=.tuple #[.string ⟨#[]⟩,.string s,.bool true]):=Qh (by
   rw[pA (nH (by rw[A.out];exact M)),nQ];rfl)
  go_enter Tryz.func125,Tryz.ntmps125
  go_wp2
  go_ret3
  rw[E.out];exact⟨rfl,Kept.refl _ _⟩
 ·have L:Hid (¬s.data.toList.length≤100):=Qh (by rw[A.out];exact M)
  go_enter Tryz.func125,Tryz.ntmps125
  go_wp2_with fail
  go_loopw [14] (fun i wr=>∃(k:Nat),k≤s.size∧i=.int .i64 k∧Hid (∀j,j<k→¬et s.data.toList j)∧Hid (Kept ag w wr)) (fun i _=>s.size - (RowKit.intOf i).toNat)
  case atStart=>exact⟨0,Nat.zero_le _,rfl,Qh (fun j U=>by omega),Qh (Kept.refl _ _)⟩
  case round=>
   obtain⟨k,hk,rfl,I,O⟩:=hrel
   by_cases b:k<s.size
   ·have N:Hid (((s[k]).toNat:Int)=((s.data.toList.getD k 0).toNat:Int)):=Qh (by rw[s_at s k b])
    have p:(s.extract 0 k).size=k:=by rw[zg,aq,Qg,A.out];omega
    have q:(s.extract (k+1) s.size).size=s.size - (k+1):=by rw[zf,aq,Qe,A.out]
    have J:Hid ((¬et s.data.toList k)→∀j,j<k+1→¬et s.data.toList j):=Qh (fun h j U=>by
     rcases Nat.lt_succ_iff_lt_or_eq.1 U with c|rfl
     ·exact I.out j c
     ·exact h)
    have V:=Qh (zg s k);have W:=Qh (zf s (k+1));have X:=L5 (s[k]);obtain⟨l,g⟩:=X;have G:=Qh (fun nq=>O.out.drewN nq)
    by_cases hc:((s[k]).toNat:Int)=47
    ·have HC:Hid (s.data.toList.getD k 0=47):=Qh (UInt8.toNat_inj.1 (show(s.data.toList.getD k 0).toNat=47 by have:=N.out;omega))
     have Y:(((s[k]).toNat:Int)==47)=true:=by simpa using hc
     by_cases T:1≤s.size - (k+1)∧s.size - (k+1)≤100
     ·obtain⟨o,m⟩:=T
      by_cases R:1≤k∧k≤155
      ·obtain⟨Z,H⟩:=R
       have hm:Hid (et s.data.toList k):=Qh ⟨HC.out,Z,H,by rw[A.out];omega,by rw[A.out];omega⟩
       have E:Hid (cutV s.data.toList=.tuple #[.string (s.extract 0 k),.string (s.extract (k+1) s.size),.bool true]):=Qh (by
        rw[pA (Nj L.out hm.out I.out),←V.out,←W.out])
       go_wp2_with fail
       go_quiet (fail)
       go_wp2_with (go_at_call 152;first|(refine(dX _ _ _ _ (by omega) (by omega)).mono ?_;rintro e B ⟨rfl,rfl⟩)|(refine(jb _ _ _ _ (by omega)).mono ?_;rintro e B ⟨rfl,rfl⟩))
       go_ret3
       rw[E.out];exact⟨rfl,G.out _⟩
      ·have D:Hid (¬et s.data.toList k):=Qh (fun h=>R ⟨h.2.1,h.2.2.1⟩)
       go_wp2_with fail
       go_quiet (fail)
       go_wp2_with (go_at_call 152;first|(refine(dX _ _ _ _ (by omega) (by omega)).mono ?_;rintro e B ⟨rfl,rfl⟩)|(refine(jb _ _ _ _ (by omega)).mono ?_;rintro e B ⟨rfl,rfl⟩))
       go_roundw
       case rel=>exact⟨k+1,by omega,by go_num,Qh (J.out D.out),Qh (G.out _)⟩
       case measure=>simp[RowKit.intOf];omega
     ·have D:Hid (¬et s.data.toList k):=Qh (fun h=>T (by
       have h1:=h.2.2.2.1;have d:=h.2.2.2.2;rw[A.out]at h1 d
       omega))
      go_wp2_with fail
      go_quiet (fail)
      go_wp2_with (go_at_call 152;first|(refine(dX _ _ _ _ (by omega) (by omega)).mono ?_;rintro e B ⟨rfl,rfl⟩)|(refine(jb _ _ _ _ (by omega)).mono ?_;rintro e B ⟨rfl,rfl⟩))
      go_roundw
      case rel=>exact⟨k+1,by omega,by go_num,Qh (J.out D.out),Qh (G.out _)⟩
      case measure=>simp[RowKit.intOf];omega
    ·have D:Hid (¬et s.data.toList k):=Qh (fun h=>hc (by rw[N.out,h.1];rfl))
     have Y:(((s[k]).toNat:Int)==47)=false:=by simpa using hc
     go_wp2_with fail
     go_quiet (fail)
     go_wp2_with (go_at_call 152;first|(refine(dX _ _ _ _ (by omega) (by omega)).mono ?_;rintro e B ⟨rfl,rfl⟩)|(refine(jb _ _ _ _ (by omega)).mono ?_;rintro e B ⟨rfl,rfl⟩))
     go_roundw
     case rel=>exact⟨k+1,by omega,by go_num,Qh (J.out D.out),Qh (G.out _)⟩
     case measure=>simp[RowKit.intOf];omega
   ·have f:Hid (k=s.size):=Qh (by omega)
    have E:Hid (cutV s.data.toList=.tuple #[.string ⟨#[]⟩,.string ⟨#[]⟩,.bool false]):=Qh (vz (Gk L.out (by
     rw[A.out,←f.out];exact I.out)))
    go_wp2
    go_ret3
    rw[E.out];exact⟨rfl,O.out⟩
end Head
namespace Head
open Fp Go.Proofs.YtdhibldkldlfpaaGreatDoor.Field Go.Lib
variable {h:ak}
theorem CH (l:List UInt8):decide (0≤Lib.indexByte l 0)=l.contains 0:=by
 cases hc:l.contains 0 with
 |true=>
  rw[decide_eq_true_eq];have hm:(0:UInt8)∈l:=by simpa using hc
  obtain⟨k,hk⟩:=List.getElem?_of_mem hm;have B:=Lib.indexByte_ge l 0;rcases Int.lt_or_le (Lib.indexByte l 0) 0 with h|h
  ·exact absurd hk (Lib.indexByte_none (show Lib.indexByte l 0=-1 by omega) k)
  ·exact h
 |false=>
  rw[decide_eq_false_iff_not];intro h;obtain⟨k,hk⟩:∃k:Nat,Lib.indexByte l 0=k:=⟨(Lib.indexByte l 0).toNat,by omega⟩
  have h1:=List.mem_of_getElem? (Lib.indexByte_some hk).1;have A:l.contains 0=true:=by simpa using h1
  rw[hc]at A
  cases A
theorem iC (l:List UInt8) (w:World):Calls Tryz.prog 157 #[.string (str l),.string ⟨#[0]⟩] w fun e w'=>e=.returned (.bool (l.contains 0))∧w=w':=
 (Any.strings_Contains_one Tryz.pK (str l) 0 w).mono fun e w' ⟨h1,h2⟩=>⟨by rw[h1,bg,CH],h2.symm⟩
theorem mf {own:Nat→List UInt8} {i:Nat} {t:List UInt8} (hz:own i=List.replicate (aj i) 0) (hl:t.length≤aj i):fi (own i) (t.take (aj i))=iw (aj i) t:=by
 rw[hz,List.take_of_length_le hl,yh]
theorem Ls (hc:gh h.name=none):fa h=none:=by unfold fa;rw[hc]
theorem me (hb:lg h=true):fa h=none:=by
 unfold fa
 cases gh h.name with
 |none=>rfl
 |some ps=>simp only;rw[if_pos (by rw[hb];rfl)]
theorem Lt (hn:eV h=false):fa h=none:=by
 unfold fa
 cases gh h.name with
 |none=>rfl
 |some ps=>simp only;rw[if_pos (by rw[hn];simp)]
theorem Oe {p s:List UInt8} (hc:gh h.name=some (p,s)) (hb:lg h=false) (hn:eV h=true):fa h=some (ct (rp h p s)):=by
 unfold fa;rw[hc];simp only;rw[if_neg (by rw[hb,hn];simp)]
def Jw (w:World) (r:Option (List UInt8)) (e:Ending) (w':World):Prop:=
 Kept ag w w'∧((∃bs g,r=some bs∧e=.returned (.tuple #[.slice (some ⟨g,0,none⟩) 512 512,.bool true])∧eB w' g bs∧w.heap.size≤g)∨(r=none∧e=.returned (.tuple #[.slice none 0 0,.bool false])))
theorem N5 (w:World) (k:UInt8):cB (w.alloc (.cells #[.int .u8 (k.toNat:Int)] 5)) (some ⟨w.heap.size,0,none⟩) 1 [k]:=fun _=>
 ⟨w.heap.size,0,rfl,fun i hi=>by
  obtain rfl:i=0:=by omega
  rw[World.cell?_alloc_at _ _ _ _ rfl]
  rfl⟩
theorem tE (h:ak) (p s:List UInt8):gA h p s 0=iw 100 s∧gA h p s 6=List.replicate 8 0∧gA h p s 7=[h.kind]∧gA h p s 8=iw 100 h.link∧gA h p s 9=ez∧gA h p s 10=iw 155 p∧∀i,1≤i→i≤5→gA h p s i=Dh h i:=by
 refine⟨rfl,rfl,rfl,rfl,rfl,rfl,fun i h1 A=>?_⟩;unfold gA;rw[if_neg (by omega),if_neg (by omega),if_neg (by omega),if_neg (by omega),if_neg (by omega),if_neg (by omega),if_pos A]
theorem Lp (h:ak) (Q4:∀i,(Lit.int .i64 (jV h i)).wf=true) (Ja:h.name.length≤140737488351232) (I8:h.link.length≤140737488351232) (w:World):
 Calls Tryz.prog 127 #[.agg #[.string (str h.name),.string (str h.link),.int .u8 (h.kind.toNat:Int),.int .i64 h.mode,.int .i64 h.uid,.int .i64 h.gid,.int .i64 h.time,.int .i64 h.size,.bool h.fh]] w (Jw w (fa h)):=by
 obtain⟨G,X⟩:∃G,G=w.alloc (.cells #[.string (str h.name),.string (str h.link),.int .u8 (h.kind.toNat:Int),.int .i64 h.mode,.int .i64 h.uid,.int .i64 h.gid,.int .i64 h.time,.int .i64 h.size,.bool h.fh] 66):=⟨_,rfl⟩
 have H:Hid (Kept ag w G):=Qh (by rw[X];exact(Kept.refl _ _).alloc _);have V:Hid (G.heap[w.heap.size]? =some (.cells (aa h) 66 (0,0))):=Qh (by rw[X];exact heap_alloc_new _ _);have Wu:=Qh Q4;have hls:(str h.link).size=h.link.length:=aq _;clear Q4
 go_enter Tryz.func127,Tryz.ntmps127
 go_wp2_with fail
 rw[←X];clear X;refine(zr (str h.name) G (by rw[aq];exact Ja)).mono ?_;rintro e R ⟨rfl,dR⟩;rw[bg];have E:=Qh dR;clear dR
 cases hcut:gh h.name with
 |none=>
  rw[vz hcut];have hR:=Ls hcut;have A:=Qh hR;clear hR hcut;have c1:=ck (E.out.some_ V.out id);unfold aa at c1;go_wp2;go_ret2;exact⟨H.out.trans E.out,Or.inr ⟨A.out,rfl⟩⟩
 |some ps=>
  obtain⟨p,s⟩:=ps;rw[pA hcut];have xc:=Qh hcut;have Zc:=Qh (pz hcut);clear hcut;have c1:=ck (E.out.some_ V.out id);unfold aa at c1
  by_cases L:h.fh=true
  ·have A:Hid (fa h=none):=Qh (me (by unfold lg;rw[L];rfl))
   rw[L]at c1;clear L;go_wp2;go_ret2;exact⟨H.out.trans E.out,Or.inr ⟨A.out,rfl⟩⟩
  ·have I:h.fh=false:=by simpa using L
   have VZ:=Qh I
   by_cases J:h.kind=0
   ·have A:Hid (fa h=none):=Qh (me (by unfold lg;rw[I,J];rfl))
    rw[I,J]at c1;have c1:∀i,R.cell? ⟨w.heap.size,i,none⟩=(#[.string (str h.name),.string (str h.link),.int .u8 0,.int .i64 h.mode,.int .i64 h.uid,.int .i64 h.gid,.int .i64 h.time,.int .i64 h.size,.bool false]:Array Value)[i]? :=c1;clear L I J;go_wp2;go_ret2;exact⟨H.out.trans E.out,Or.inr ⟨A.out,rfl⟩⟩
   ·have A7:((h.kind.toNat:Int)==0)=false:=by
     have h1:h.kind.toNat≠0:=fun e=>J (UInt8.toNat_inj.1 e)
     simp;omega
    have MQ:=Qh J;have oD:¬((h.kind.toNat:Int)=0):=by simpa using A7
    by_cases NA:h.link.length≤100
    ·rw[I]at c1
     clear L I J;go_wp2_with fail;refine(iC h.name R).mono ?_;rintro e w1' ⟨rfl,rfl⟩
     by_cases T:h.name.contains 0=true
     ·have A:Hid (fa h=none):=Qh (me (by unfold lg;rw[T];simp))
      rw[T];clear T;go_wp2;go_ret2;exact⟨H.out.trans E.out,Or.inr ⟨A.out,rfl⟩⟩
     ·have z:h.name.contains 0=false:=by simpa using T
      have jZ:=Qh z;rw[z];clear T z;go_wp2_with fail;refine(iC h.link R).mono ?_;rintro e w1' ⟨rfl,rfl⟩
      by_cases U:h.link.contains 0=true
      ·have A:Hid (fa h=none):=Qh (me (by unfold lg;rw[U];simp))
       rw[U];clear U;go_wp2;go_ret2;exact⟨H.out.trans E.out,Or.inr ⟨A.out,rfl⟩⟩
      ·have Ra:h.link.contains 0=false:=by simpa using U
       have VR:Hid (lg h=false):=Qh (by
        unfold lg;rw[VZ.out,jZ.out,Ra];have h1:(h.kind==0)=false:=by simpa using MQ.out
        have h2:¬100<h.link.length:=by omega
        rw[h1]
        simp[h2])
       rw[Ra];clear U Ra;go_wp2_with fail;refine(vr R).mono ?_;rintro e w2 ⟨B,r,rfl,Y,dc⟩;have ib:=Qh (E.out.trans dc);have Mf:Hid (G.heap.size≤R.heap.size):=Qh E.out.size;obtain⟨lo,u⟩:∃lo,lo=R.heap.size:=⟨_,rfl⟩
       rw[←u]at Y;have d:Hid (G.heap.size≤lo):=Qh (by rw[u];exact Mf.out);have xf:=Qh Y;have xg:Hid (∀i,i<11→G.heap.size≤r i):=Qh (fun i hi=>Nat.le_trans d.out (Y.lo.2 i hi));clear Y dc u c1;have c2:=ck (ib.out.some_ V.out id);unfold aa at c2;rw[VZ.out]at c2;go_wp2_with fail
       refine Calls.mono (show Calls _ _ _ _ (qe w2 lo B r h fy) by
        have hh:=tL h Wu.out lo B r fy w2 xf.out (fun i _ _=>rfl);rw[VZ.out]at hh
        exact hh) ?_
       intro e w3 h3;obtain⟨Z,(⟨xE,rfl,Mn⟩|⟨uF,rfl⟩)⟩:=h3
       ·have ve:=Qh xE
        have ru:=Qh Mn
        have rr:=Qh (ib.out.then Z (fun k hk=>Or.inl (by
         obtain⟨i,hi,rfl⟩:=hk
         exact xg.out i hi)))
        have Zv:∀(i:Nat) (wa wb:World),i<11→Kept ag G wa→Kept (aA (r i)) wa wb→Kept ag G wb:=fun i wa wb hi ha hb=>ha.then hb (fun k hk=>Or.inl (by
         have h1:k=r i:=hk;rw[h1]
         exact xg.out i hi))
        have M:=Qh Zv;have KF:s.length≤100:=Zc.out.1;have G1:p.length≤155:=Zc.out.2.1;clear xE Mn Z c2 Zv;go_wp2_with fail;refine(gC lo B r _ 0 (str s) w3 (by omega) ru.out).mono ?_;rintro e w4 ⟨rfl,o,kI,-⟩;rw[bg,mf (i:=0) (t:=s) rfl KF]at o;have D9:=Qh o;have D7:=Qh (M.out 0 _ _ (by omega) rr.out kI);clear o kI;go_wp2_with fail;refine(gC lo B r _ 10 (str p) w4 (by omega) D9.out).mono ?_;rintro e W ⟨rfl,y,ig,-⟩;rw[bg,mf (i:=10) (t:=p) rfl G1]at y;have Wc:=Qh y;have OC:=Qh (M.out 10 _ _ (by omega) D7.out ig);clear y ig;have c5:=ck (OC.out.some_ V.out id);unfold aa at c5
        have cvk:(convert 26 9 (.slice (some ⟨W.heap.size,0,none⟩) 1 1)).run Tryz.prog (W.alloc (.cells #[.int .u8 (h.kind.toNat:Int)] 5))=.ok (.string (str [h.kind])) (W.alloc (.cells #[.int .u8 (h.kind.toNat:Int)] 5)):=
         cD (N5 W h.kind) rfl _ _ _ Tryz.underlying26 Tryz.underlying5 Tryz.underlying9 1
        have YR:=Qh ((Kept.refl ag W).alloc (.cells #[.int .u8 (h.kind.toNat:Int)] 5));go_wp2_with fail;refine(gC lo B r _ 7 (str [h.kind]) _ (by omega) (Wc.out.cJ YR.out)).mono ?_;rintro e w6 ⟨rfl,Xa,ED,-⟩;rw[bg,mf (i:=7) (t:=[h.kind]) rfl (Qk 1)]at Xa;have f:=Qh Xa;have MO:=Qh (M.out 7 _ _ (by omega) (OC.out.trans YR.out) ED);clear Xa ED c5 cvk;have c6:=ck (MO.out.some_ V.out id);unfold aa at c6;go_wp2_with fail;refine(gC lo B r _ 8 (str h.link) w6 (by omega) f.out).mono ?_;rintro e w7 ⟨rfl,Xb,uv,-⟩;rw[bg,mf (i:=8) (t:=h.link) rfl NA]at Xb;have g:=Qh Xb;have b:=Qh (M.out 8 _ _ (by omega) MO.out uv);clear Xb uv c6;go_wp2_with fail;refine(gC lo B r _ 9 _ w7 (by omega) g.out).mono ?_;rintro e w8 ⟨rfl,N,Z1,-⟩;rw[show(ByteArray.mk #[117,115,116,97,114,0,48,48]).data.toList=ez from rfl,mf (i:=9) (t:=ez) rfl (Qk 8)]at N;have c:=Qh (M.out 9 _ _ (by omega) b.out Z1);obtain⟨own,O⟩:∃own,own=Ba (Ba (Ba (Ba (Ba (tB h fy) 0 (iw (aj 0) s)) 10 (iw (aj 10) p)) 7 (iw (aj 7) [h.kind])) 8 (iw (aj 8) h.link)) 9 (iw (aj 9) ez):=⟨_,rfl⟩
        rw[←O]at N
        have GZ:own=gA h p s:=by
         have D:=tE h p s;refine zk N.fit (vX KF G1 NA ve.out) fun i hi=>?_
         rw[O];rcases kB hi with rfl|rfl|rfl|rfl|rfl|rfl|rfl|rfl|rfl|rfl|rfl
         ·rw[D.1];rfl
         ·rw[D.2.2.2.2.2.2 1 (by omega) (by omega)];rfl
         ·rw[D.2.2.2.2.2.2 2 (by omega) (by omega)];rfl
         ·rw[D.2.2.2.2.2.2 3 (by omega) (by omega)];rfl
         ·rw[D.2.2.2.2.2.2 4 (by omega) (by omega)];rfl
         ·rw[D.2.2.2.2.2.2 5 (by omega) (by omega)];rfl
         ·rw[D.2.1];rfl
         ·rw[D.2.2.1];rfl
         ·rw[D.2.2.2.1];rfl
         ·rw[D.2.2.2.2.1];rfl
         ·rw[D.2.2.2.2.2.1];rfl
        rw[GZ]at N;have Y6:=Qh N;clear N Z1 O GZ own;go_wp2_with fail;refine(vt lo B r (gA h p s) w8 Y6.out).mono ?_;rintro e w9 ⟨g1,rfl,R0,hg9,Sd⟩;have Wd:=Qh (Y6.out.cJ Sd);have U3:=Qh (c.out.trans Sd);have q:=R0.gZ;rw[bU]at q;have RF:=Qh q;clear R0 hg9 Sd q
        have hS:((br (ct (gA h p s)) 512:Nat):Int) - (br (gA h p s 6) 8:Nat)+256=(dN (ct (gA h p s)) 512:Nat):=by
         have h1:=wT (bs:=ct (gA h p s));rw[kD Wd.out.fit (by omega)]at h1;omega
        have hSL:=o9 (ct (gA h p s)) 512;obtain⟨S,Xi⟩:∃S,S=dN (ct (gA h p s)) 512:=⟨_,rfl⟩
        rw[←Xi]at hS hSL;have HS:=Qh hS;have m:=Qh Xi;clear hS Xi;go_wp2_with fail;refine(yq lo B r (gA h p s) _ 512 512 (ct (gA h p s)) w9 (by omega) RF.out Wd.out).mono ?_;rintro e w9' ⟨rfl,rfl⟩;rw[HS.out];go_wp2_with fail;refine(Fc (S:Int) 7 w9 (WalkArith.wf_i64 (by omega)) (by decide)).mono ?_;rintro e RB ⟨Tx,(⟨l,v,hl,rfl,O⟩|⟨hl,rfl⟩)⟩
        ·obtain⟨p10,Nd,rfl,Xu,X0,q9,_⟩:=Fe rfl hl O
         rw[Am (by omega)]at hl;have hl:=Option.some.inj hl;have XW:l.length=7:=by rw[←hl];simp[dj]
         have QT:Kept ag w9 RB:=Kept.aS Tx _;have Wa:=Qh (Wd.out.cJ QT);have V2:=Qh (U3.out.trans QT);have cs:(convert 26 9 (.slice p10 l.length Nd)).run Tryz.prog RB=.ok (.string (str (bytesOf l))) RB:=cD q9 (by rw[bytesOf_length]) _ _ _ Tryz.underlying26 Tryz.underlying5 Tryz.underlying9 Nd;have hsz:(str (bytesOf l)).size=7:=by rw[aq,bytesOf_length,XW]
         have HL:=Qh hl;have HL7:=Qh XW;clear hl XW O Xu X0 q9 Tx QT;go_wp2_with fail;refine(gC lo B r _ 6 _ RB (by omega) Wa.out).mono ?_;rintro e Sq ⟨rfl,QC,TV,-⟩
         have e6:(str (bytesOf l)++⟨#[32]⟩).data.toList=uU S:=by
          rw[show(⟨#[32]⟩:ByteArray)=str [32]from rfl,uc,bg,uU,HL.out]
         rw[e6,List.take_of_length_le (by rw[my];exact Qk _),jG (by rw[my,(tE h p s).2.1];rfl),m.out]at QC;have Wb:=Qh (show aZ Sq lo B r (rp h p s)from QC);have SA:=Qh (M.out 6 _ _ (by omega) V2.out TV);clear QC TV e6 cs;go_wp2_with fail;refine(vt lo B r (rp h p s) Sq Wb.out).mono ?_;rintro e w12 ⟨g2,rfl,Tq,TP,xD⟩;have Wh:=Qh Tq;have VX:Hid (w.heap.size≤g2):=Qh (Nat.le_trans (Nat.le_trans H.out.size SA.out.size) TP);have V3:=Qh (SA.out.trans xD);have SJ:=Qh (Oe xc.out VR.out ve.out);clear Tq TP xD;go_wp2;go_ret2;exact⟨H.out.trans V3.out,Or.inl ⟨_,g2,SJ.out,rfl,Wh.out,VX.out⟩⟩
        ·exfalso
         rw[Am (by omega)]at hl
         cases hl
       ·have A:Hid (fa h=none):=Qh (Lt uF)
        have rr:=Qh (ib.out.then Z (fun k hk=>Or.inl (by
         obtain⟨i,hi,rfl⟩:=hk
         exact xg.out i hi)))
        clear uF Z c2;go_wp2;go_ret2;exact⟨H.out.trans rr.out,Or.inr ⟨A.out,rfl⟩⟩
    ·have XY:100<h.link.length:=by omega
     have A:Hid (fa h=none):=Qh (me (by unfold lg;simp[XY]));rw[I]at c1;clear L I J;go_wp2;go_ret2;exact⟨H.out.trans E.out,Or.inr ⟨A.out,rfl⟩⟩
theorem Me (p:Option Addr) (n c:Nat) (bs:List UInt8) (w:World) (hm:n≤140737488351232) (h:cB w p n bs):
 Calls Tryz.prog 72 #[.slice p n c] w fun e w'=>e=.returned (.bool (((br bs n:Nat):Int)==0))∧w=w':=by
 have H:=Qh h;clear h
 go_enter Tryz.func72,Tryz.ntmps72
 go_wp2_with fail
 refine(p6 p n c bs w hm H.out).mono ?_;rintro e A ⟨rfl,rfl⟩;go_wp2;go_ret;exact⟨rfl,rfl⟩
end Head
end Go.Proofs.YtdhibldkldlfpaaGreatDoor
