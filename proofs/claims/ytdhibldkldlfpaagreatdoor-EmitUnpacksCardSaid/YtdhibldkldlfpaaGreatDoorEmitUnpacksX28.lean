/- Merged. -/
import Derived.Test.YtdhibldkldlfpaaGreatDoorEmitUnpacksX24
import Derived.Deep.DeepCutAuto
namespace Go.Proofs.YtdhibldkldlfpaaGreatDoor
set_option linter.unusedVariables false
set_option maxHeartbeats 8000000
set_option maxRecDepth 100000
namespace Head
open Go.ChangeShapes Go.WideShapes Go.ChangeAt Go.RowKit Base cb iK Hp Go.Proofs.YtdhibldkldlfpaaGreatDoor.Mp Fp Go.Proofs.YtdhibldkldlfpaaGreatDoor.Field Go.Lib
variable {g k:Nat} {w:World}
theorem yI {b o n:Nat} {bs:List UInt8} (h:iC w (some ⟨b,o,none⟩) n bs) (l k:Nat) (OC:l+k≤n):iC w (some ⟨b,o+l,none⟩) k ((bs.drop l).take k):=fun B=>by
 obtain⟨A,D,he,hc⟩:=h (by omega)
 cases he
 refine⟨b,o+l,rfl,fun i hi=>?_⟩;rw[Nat.add_assoc,hc (l+i) (by omega)];simp[List.getD,hi]
theorem UT (b o c i:Nat) (hi:i<512) (w:World):(Instr.indexAt 26 (.slice (some ⟨b,o,none⟩) 512 c) (.int .i64 (i:Int))).run Tryz.prog w=.ok (.pointer (some ⟨b,o+i,none⟩)) w:=by
 have A:=Tryz.underlying26;have f5:=Tryz.sizeOf5;have h1:(i:Int)<512:=by omega
 go_simp
theorem Yv (w:World) (a:Addr) (k:Int) (h:w.cell? a=some (.int .u8 k)):(Instr.loadAt 5 (.pointer (some a))).run Tryz.prog w=.ok (.int .u8 k) w:=by
 go_simp
def C7:Nat→Nat
 |0=>1|1=>2|2=>3|3=>5|_=>4
def TK (bs:List UInt8) (k:Nat):Array Value:=#[.int .i64 (if 0<k then iW bs 1 else 0),.int .i64 (if 1<k then iW bs 2 else 0),.int .i64 (if 2<k then iW bs 3 else 0),.int .i64 (if 3<k then iW bs 5 else 0),.int .i64 (if 4<k then iW bs 4 else 0)]
theorem TL (bs:List UInt8) (hk:k<5):(TK bs k)[k]? =some (.int .i64 0):=by
 rcases(show k=0∨k=1∨k=2∨k=3∨k=4 by omega)with rfl|rfl|rfl|rfl|rfl<;>rfl
theorem TM (bs:List UInt8) (hk:k<5):(TK bs k).setIfInBounds k (.int .i64 (iW bs (C7 k)))=TK bs (k+1):=by
 rcases(show k=0∨k=1∨k=2∨k=3∨k=4 by omega)with rfl|rfl|rfl|rfl|rfl<;>rfl
def as9 (b o c:Nat):Array Value:=#[.slice (some ⟨b,o+100,none⟩) 8 (c - 100),.slice (some ⟨b,o+108,none⟩) 8 (c - 108),.slice (some ⟨b,o+116,none⟩) 8 (c - 116),.slice (some ⟨b,o+136,none⟩) 12 (c - 136),.slice (some ⟨b,o+124,none⟩) 12 (c - 124)]
theorem VG (b o c:Nat) (hk:k<5):(as9 b o c)[k]? =some (.slice (some ⟨b,o+nH (C7 k),none⟩) (aq (C7 k)) (c - nH (C7 k))):=by
 rcases(show k=0∨k=1∨k=2∨k=3∨k=4 by omega)with rfl|rfl|rfl|rfl|rfl<;>rfl
theorem YQ (hk:k<5):1≤C7 k∧C7 k≤5∧nH (C7 k)+aq (C7 k)≤512:=by
 rcases(show k=0∨k=1∨k=2∨k=3∨k=4 by omega)with rfl|rfl|rfl|rfl|rfl<;>decide
theorem VD {P:Nat→Prop} (h:∀k,k<5→P (C7 k)):∀i,1≤i→i≤5→P i:=fun i h1 A=>by
 rcases(show i=1∨i=2∨i=3∨i=4∨i=5 by omega)with rfl|rfl|rfl|rfl|rfl
 ·exact h 0 (by omega)
 ·exact h 1 (by omega)
 ·exact h 2 (by omega)
 ·exact h 4 (by omega)
 ·exact h 3 (by omega)
theorem B8 {cs:Array Value} {e:TypeId} (h:w.heap[g]? =some (.cells cs e (0,0))) (i:Nat) (v:Value):(w.setCell ⟨g,i,none⟩ v).heap[g]? =some (.cells (cs.setIfInBounds i v) e (0,0)):=by
 rw[setCell_eq_setRow w g i _ _ _ _ h];exact setRow_heap w g _ _ _ _ h
theorem Z6 {w0:World} (h:Kept (aA g) w0 w) (v3 v4 v5 v6 v7:Value):
 Kept (aA g) w0 (((((w.setCell ⟨g,3,none⟩ v3).setCell ⟨g,4,none⟩ v4).setCell ⟨g,5,none⟩ v5).setCell ⟨g,6,none⟩ v6).setCell ⟨g,7,none⟩ v7):=by
 have st:∀{w:World} (i:Nat) (v:Value),Kept (aA g) w0 w→Kept (aA g) w0 (w.setCell ⟨g,i,none⟩ v):=fun i v h=>h.setCell (a:=⟨g,i,none⟩) (Or.inr (show aA g g from rfl)) v
 exact st 7 v7 (st 6 v6 (st 5 v5 (st 4 v4 (st 3 v3 h))))
theorem R0 (p:Option Addr) (n c:Nat) (bs:List UInt8) (w:World) (hn:bs.length=n) (hc:n≤c) (hm:c≤140737488351232) (h:iC w p n bs):
 Calls Tryz.prog 32 #[.slice p n c] w fun e w'=>e=.returned (oF (aR bs))∧Kept ag w w':=by
 have A:=Qh hn;have H:=Qh h;have fl:=Tryz.underlying26;clear h hn
 by_cases Jb:n=512
 ·subst Jb
  obtain⟨b,o,rfl,hcell⟩:=H.out (by omega);have an5:=hcell 156 (by omega);have pL:b<w.heap.size:=World.block_lt_of_cell? w _ (hcell 0 (by omega));obtain⟨g,hg⟩:∃g,g=w.heap.size:=⟨_,rfl⟩
  obtain⟨w0,GQ⟩:∃w0,w0=w.alloc (.cells #[.string ⟨#[]⟩,.string ⟨#[]⟩,.int .u8 0,.int .i64 0,.int .i64 0,.int .i64 0,.int .i64 0,.int .i64 0,.bool false] 66):=⟨_,rfl⟩
  have I:Hid (Kept ag w w0):=Qh (by rw[GQ];exact(Kept.refl ag w).alloc _);have J:Hid (w0.heap[g]? =some (.cells jD 66 (0,0))):=Qh (by rw[GQ,hg];exact heap_alloc_new w _);have HGL:Hid (g<w0.heap.size):=Qh (Array.getElem?_eq_some_iff.1 J.out).1;have HG:Hid (w.heap.size≤g):=Qh (by omega);have O:Hid (iC w0 (some ⟨b,o,none⟩) 512 bs):=Qh (H.out.kept I.out (fun _ _ _=>id));have HA3:Hid (b<w0.heap.size):=Qh (by have h1:=I.out.size;omega)
  have aI2:Hid (w0.cell? ⟨b,o+156,none⟩=some (.int .u8 ((bs.getD 156 0).toNat:Int))):=Qh (by
   obtain⟨b',o',he,L3⟩:=O.out (by omega)
   cases he
   exact L3 156 (by omega))
  clear hcell an5
  go_enter Tryz.func32,Tryz.ntmps32
  go_wp2_with fail
  rw[←GQ,←hg];clear GQ hg;refine(Dp _ 8 _ (aj bs 6) w0 (iG A.out (by omega)) (by omega) (by unfold maxLen;omega) (yI O.out 148 8 (by omega))).mono ?_;rintro e w' ⟨rfl,rfl⟩;obtain⟨oU,t⟩:=AF (aj bs 6);rw[oU]
  cases D:aY (aj bs 6)with
  |none=>
   have E:Hid (aR bs=(bg,3)):=Qh (vH A.out (by rw[D];simp));generalize (lh (aj bs 6)).1=y;rw[Hc];have c0:=bC J.out;have f0:=ct J.out;unfold jD at c0;clear D t oU;go_wp2;refine bodyPost_ret (jR rfl _ _ g _ rfl rfl ⟨#[]⟩ ⟨#[]⟩ 0 0 0 0 0 0 false (oQ J.out _ _ _ _ _ _ _ _ _)) rfl ?_;rw[E.out]
   exact⟨rfl,I.out.then (sC (Kept.refl (aA g) _) _ _ _ _ _ _ _ _ _) (fun i hi=>Or.inl (by
    have h1:i=g:=hi;rw[h1]
    exact HG.out))⟩
  |some sm=>
   rw[t (by rw[D];rfl),D,Ic,Hd];have af8:=vq bs 512;obtain⟨X,hX⟩:∃X:Nat,X=jg bs 512:=⟨_,rfl⟩
   rw[←hX]at af8;have HX:=Qh hX;have Tj:=Qh D;clear hX D t oU
   by_cases hsX:sm=(X:Int)
   ·subst hsX
    have Xv:Hid (aY (aj bs 6)=some (jg bs 512:Int)):=Qh (by rw[Tj.out,HX.out]);go_wp2_with fail;refine(Kn (some ⟨b,o,none⟩) 512 c bs w0 (by omega) O.out).mono ?_;rintro e w' ⟨rfl,rfl⟩;rw[←HX.out]
    have cs9:(convert 26 9 (.slice (some ⟨b,o+257,none⟩) 8 (c - 257))).run Tryz.prog w0=.ok (.string (str (aj bs 9))) w0:=
     iR (P:=Tryz.prog) (yI O.out 257 8 (by omega)) (iG A.out (i:=9) (by omega)) 26 5 9 Tryz.underlying26 Tryz.underlying5 Tryz.underlying9 (c - 257)
    by_cases L:aj bs 9=kf∨aj bs 9=xZ
    ·have BS:=Qh L
     obtain⟨B,hB⟩:∃B,x9 bs=B:=⟨_,rfl⟩
     have Iu:=Qh hB;have HGN:Hid (((str (aj bs 9)).toList==[117,115,116,97,114,32,32,0])=B):=Qh (by rw[ak,←hB];rfl);clear L hB;go_upto_region 7 with fail
     go_cut [41] (fun s41 R=>s41=.bool false∧w0=R)
     case first=>
      rcases BS.out with h|h
      ·have q1:((str (aj bs 9)).toList==[117,115,116,97,114,0,48,48])=true:=by rw[ak,h];decide
       clear h;go_wp2;go_meet;exact⟨rfl,rfl⟩
      ·have q1:((str (aj bs 9)).toList==[117,115,116,97,114,0,48,48])=false:=by rw[ak,h];decide
       have q2:((str (aj bs 9)).toList==[117,115,116,97,114,32,32,0])=true:=by rw[ak,h];decide
       clear h;go_wp2;go_meet;exact⟨rfl,rfl⟩
     case rest=>
      obtain⟨rfl,rfl⟩:=hcut;clear cs9;obtain⟨g2,hg2⟩:∃g2,g2=w0.heap.size:=⟨_,rfl⟩
      have sW:=Qh hg2;clear hg2;obtain⟨x,hx⟩:∃x:Int,x=((bs.getD 156 0).toNat:Int):=⟨_,rfl⟩
      have pC:=Qh hx;clear hx;go_wp2_with fail;refine wp_region_any (by kernel_rfl) (Nj (w3:=w0) g2 (.slice (some ⟨b,o,none⟩) 512 c) (.slice (some ⟨b,o,none⟩) 100 c) (.slice (some ⟨b,o+157,none⟩) 100 (c - 157)) ⟨b,o+156,none⟩ (str (aj bs 9)) (str (av (aj bs 0))) (str (av (aj bs 8))) B x (show 118≤118 from Qk 118) rfl rfl sW.out (fun w=>?ix) (fun w hk=>?ld) (fun w=>V9 b o c 100 (by omega) hc w) (fun w=>sP b o c 157 257 (by omega) (by omega) hc (by omega) w) (fun w hk=>?u1) (fun w hk=>?u2) HGN.out ?_)
      case ix=>exact UT b o c 156 (by omega) w
      case ld=>
       have q:w.cell? ⟨b,o+156,none⟩=some (.int .u8 x):=by
        obtain⟨b',o',he,L3⟩:=(O.out.kept hk (fun _ _ _=>id)) (by omega)
        cases he
        rw[pC.out];exact L3 156 (by omega)
       exact Yv w _ _ q
      case u1=>
       exact zK _ 100 c (aj bs 0) w (iG A.out (by omega)) (by omega) hm ((O.out.kept hk (fun _ _ _=>id)).take (k:=100) (by omega))
      case u2=>
       exact zK _ 100 (c - 157) (aj bs 8) w (iG A.out (by omega)) (by omega) (by omega) (yI (O.out.kept hk (fun _ _ _=>id)) 157 100 (by omega))
      intro w4 xh tz;simp only[Exit.then]
      apply_assumption
      have c4:=bC xh;have f4:=ct xh;go_upto_if 57 with fail
      go_cut [] (fun R=>Hid (∃f:Int,((CA bs).toNat:Int)=f∧R.heap[g2]? =some (.cells #[.string (str (av (aj bs 0))),.string (str (av (aj bs 8))),.int .u8 f,.int .i64 0,.int .i64 0,.int .i64 0,.int .i64 0,.int .i64 0,.bool B] 66 (0,0))∧Kept ag w0 R))
      case first=>
       by_cases Zw:x=0
       ·have uj:(x==0)=true:=by rw[Zw];rfl
        go_wp2;go_meet
        exact Qh ⟨48,by
         rw[CA,tk bs 7 0 (by decide),show nH 7+0=156 from rfl,if_pos (show bs.getD 156 0=0 from UInt8.toNat.inj (show(bs.getD 156 0).toNat=0 by have:=pC.out;omega))]
         rfl,B8 xh 2 (.int .u8 48),tz.setCell (Or.inl (by rw[sW.out];exact Qk _)) _⟩
       ·have uj:(x==0)=false:=by simpa using Zw
        go_wp2;go_meet
        exact Qh ⟨x,by
         rw[CA,tk bs 7 0 (by decide),show nH 7+0=156 from rfl,if_neg (show ¬bs.getD 156 0=0 from fun e=>Zw (by rw[pC.out,e];rfl)),pC.out],xh,tz⟩
      case rest=>
       obtain⟨w5,rfl⟩:∃x,x=wc:=⟨_,rfl⟩
       have U:Hid (∃f:Int,((CA bs).toNat:Int)=f∧w5.heap[g2]? =some (.cells #[.string (str (av (aj bs 0))),.string (str (av (aj bs 8))),.int .u8 f,.int .i64 0,.int .i64 0,.int .i64 0,.int .i64 0,.int .i64 0,.bool B] 66 (0,0))∧Kept ag w0 w5):=hcut;clear hcut c4 f4 xh tz;obtain⟨f,h1,N,Z⟩:=U.out;clear U;have U:=Qh h1;have W:=Qh N;have KQ:=Qh Z;clear h1 N Z;go_wp2_with fail;have f10:iC w5 (some ⟨b,o+345,none⟩) 155 (aj bs 10):=yI (O.out.kept KQ.out (fun _ _ _=>id)) 345 155 (by omega);refine(zK _ 155 (c - 345) (aj bs 10) w5 (iG A.out (by omega)) (by omega) (by omega) f10).mono ?_;rintro e w' ⟨rfl,rfl⟩;have c5:=bC W.out;have f5:=ct W.out;clear f10;obtain⟨s0,UL⟩:∃s0,s0=str (av (aj bs 0)):=⟨_,rfl⟩
       obtain⟨px,hpx⟩:∃px,px=str (av (aj bs 10)):=⟨_,rfl⟩
       rw[←UL]at c5;rw[←hpx];have HS0:=Qh UL;have V:=Qh hpx;clear UL hpx;obtain⟨M,hM⟩:∃M,(!B&&!px.toList.isEmpty)=M:=⟨_,rfl⟩
       have NU:=Qh hM;clear hM;go_upto_region 13 with fail
       go_cut [68] (fun s68 R=>s68=.bool M∧w5=R)
       case first=>
        cases B with
        |true=>
         go_wp2;go_meet
         exact⟨by rw[←NU.out];rfl,rfl⟩
        |false=>
         go_wp2;go_meet
         exact⟨by rw[←NU.out];rfl,rfl⟩
       case rest=>
        obtain⟨rfl,rfl⟩:=hcut;go_upto_if 68 with fail
        go_cut [] (fun R=>Hid (∃nm,nm=str (o4 (av (aj bs 10)) (av (aj bs 0)) B)∧R.heap[g2]? =some (.cells #[.string nm,.string (str (av (aj bs 8))),.int .u8 f,.int .i64 0,.int .i64 0,.int .i64 0,.int .i64 0,.int .i64 0,.bool B] 66 (0,0))∧Kept ag w0 R∧R.heap.size=w5.heap.size))
        case first=>
         cases M with
         |false=>
          go_wp2;go_meet
          refine Qh ⟨str (av (aj bs 0)),?_,W.out,KQ.out,rfl⟩;rw[o4,if_pos]
          cases B with
          |true=>exact .inl rfl
          |false=>
           refine .inr ?_;have h:=NU.out;rw[V.out,ak]at h
           simpa using h
         |true=>
          have hb:B=false∧px.toList.isEmpty=false:=by
           have h:=NU.out
           simpa using h
          obtain⟨nm,ZS⟩:∃nm,nm=px++⟨#[47]⟩++s0:=⟨_,rfl⟩
          have G:Hid (nm=str (o4 (av (aj bs 10)) (av (aj bs 0)) B)):=Qh (by
           have h:=hb.2;rw[V.out,ak]at h;rw[ZS,V.out,HS0.out,o4,if_neg (by rw[hb.1];intro h';rcases h' with h'|h';cases h';rw[h']at h;cases h),show(⟨#[47]⟩:ByteArray)=str [47]from rfl,vm,vm]
           simp)
          have aL0:px.size≤155:=by
           rw[V.out,ax];exact Nat.le_trans (List.takeWhile_sublist _).length_le (Nat.le_of_eq (iG A.out (i:=10) (by omega)))
          have aC8:s0.size≤100:=by
           rw[HS0.out,ax];exact Nat.le_trans (List.takeWhile_sublist _).length_le (Nat.le_of_eq (iG A.out (i:=0) (by omega)))
          clear hb;go_wp2;go_meet;rw[←ZS];exact Qh ⟨nm,G.out,B8 W.out 0 (.string nm),KQ.out.setCell (Or.inl (by rw[sW.out];exact Qk _)) _,by simp⟩
        case rest=>
         obtain⟨wn,rfl⟩:∃x,x=wc:=⟨_,rfl⟩
         have G:Hid (∃nm,nm=str (o4 (av (aj bs 10)) (av (aj bs 0)) B)∧wn.heap[g2]? =some (.cells #[.string nm,.string (str (av (aj bs 8))),.int .u8 f,.int .i64 0,.int .i64 0,.int .i64 0,.int .i64 0,.int .i64 0,.bool B] 66 (0,0))∧Kept ag w0 wn∧wn.heap.size=w5.heap.size):=hcut;clear hcut c5 f5;obtain⟨nm,h1,N,Z,h4⟩:=G.out;clear G;have G:=Qh h1;have HV:=Qh N;have HKV:=Qh Z;clear h1 N Z h4;go_wp2_with fail;obtain⟨g3,z⟩:∃g3,g3=wn.heap.size:=⟨_,rfl⟩
         obtain⟨w6,OK⟩:∃w6,w6=wn.alloc (.cells #[.int .i64 0,.int .i64 0,.int .i64 0,.int .i64 0,.int .i64 0] 117):=⟨_,rfl⟩
         have HA6:Hid (w6.heap[g3]? =some (.cells (TK bs 0) 117 (0,0))):=Qh (by rw[OK,z];exact heap_alloc_new wn _);have Tb:Hid (Kept ag w0 w6):=Qh (by rw[OK];exact HKV.out.alloc _);have H26:=Qh (((Kept.refl ag wn).alloc (.cells #[.int .i64 0,.int .i64 0,.int .i64 0,.int .i64 0,.int .i64 0] 117)).some_ HV.out id);rw[←OK]at H26
         have Y:Hid (g≠g3∧g2≠g3∧g3<w6.heap.size∧g≠g2∧w0.heap.size≤g3):=Qh (by
          have h1:=HKV.out.size;have N:=HGL.out;have Z:=(Array.getElem?_eq_some_iff.1 HV.out).1;have h4:=(Array.getElem?_eq_some_iff.1 HA6.out).1;have h5:=sW.out
          omega)
         rw[←OK,←z];clear OK z;obtain⟨g4,hg4⟩:∃g4,g4=w6.heap.size:=⟨_,rfl⟩
         have HG4:=Qh hg4;clear hg4;refine wp_region_any (by kernel_rfl) (Ki (w3:=w6) g4 (.slice (some ⟨b,o,none⟩) 512 c) _ _ _ _ _ (show 118≤118 from Qk 118) rfl HG4.out (fun w=>sP b o c 100 108 (by omega) (by omega) hc (by omega) w) (fun w=>sP b o c 108 116 (by omega) (by omega) hc (by omega) w) (fun w=>sP b o c 116 124 (by omega) (by omega) hc (by omega) w) (fun w=>sP b o c 136 148 (by omega) (by omega) hc (by omega) w) (fun w=>sP b o c 124 136 (by omega) (by omega) hc (by omega) w) (fun w=>ac7 w _ _ _ _ _ _ _ _ _ _ _ _ _ _ _) ?_);intro w7 hw7 zl;have HP7:Hid (w7.heap[g4]? =some (.cells (as9 b o c) 26 (0,0))):=Qh hw7;have T:=Qh (Tb.out.trans zl);have HA7:=Qh (zl.some_ HA6.out id);have H27:=Qh (zl.some_ H26.out id);have HG7:=Qh (T.out.some_ J.out id);have HD4:Hid (g4≠g3):=Qh (by have h1:=HG4.out;have N:=Y.out.2.2.1;omega);clear hw7 zl;simp only[Exit.then]
         apply_assumption
         go_wp2_with fail
         go_loopw [11] (fun i wr=>∃k:Nat,k≤5∧i=.int .i64 k∧Hid (Kept (aA g3) w7 wr)∧Hid (wr.heap[g3]? =some (.cells (TK bs k) 117 (0,0)))∧Hid (∀j,j<k→BF (aY (aj bs (C7 j)))=true)) (fun i _=>5 - (RowKit.intOf i).toNat)
         case atStart=>exact⟨0,by omega,rfl,Qh (Kept.refl _ _),HA7,Qh (fun j hj=>absurd hj (by omega))⟩
         case round=>
          obtain⟨k,hk,rfl,l,d,r⟩:=hrel
          by_cases ay:k<5
          ·have hcell:=bC d.out k
           rw[TL bs ay]at hcell;have hfz:=ct d.out k;have OE:=bC (l.out.some_ HP7.out HD4.out) k;rw[VG b o c ay]at OE;obtain⟨GJ,Cu,ho3⟩:=YQ ay;obtain⟨q,hq⟩:∃q,q=C7 k:=⟨_,rfl⟩
           rw[←hq]at OE GJ Cu ho3;have HQ:=Qh hq;clear hq;go_wp2_with fail
           refine(Dp _ _ _ (aj bs q) _ (iG A.out (by omega)) (by omega) (by unfold maxLen;omega) (yI (iC.kept (O.out.kept T.out (fun _ _ _=>id)) l.out (fun _ a ha=>by
            cases ha
            have h1:=Y.out.2.2.2.2;intro e;have e:b=g3:=e;have h5:=HA3.out
            omega)) _ _ ho3)).mono ?_
           rintro e w' ⟨rfl,rfl⟩;obtain⟨oU,t⟩:=AF (aj bs q);rw[oU]
           cases D:aY (aj bs q)with
           |none=>
            have E:Hid (aR bs=(bg,4)):=Qh (zj A.out Xv.out BS.out (by
             cases h:qz bs with
             |false=>rfl
             |true=>
              have h1:=pR.1 h q GJ Cu;rw[D]at h1
              cases h1))
            generalize (lh (aj bs q)).1=y;rw[Hc];have m:=l.out.some_ HG7.out Y.out.1;have u:=Qh m;have c0:=bC m;have f0:=ct m;unfold jD at c0;clear D t oU hcell hfz OE m;go_wp2;refine bodyPost_ret (jR rfl _ _ g _ rfl rfl ⟨#[]⟩ ⟨#[]⟩ 0 0 0 0 0 0 false (oQ u.out _ _ _ _ _ _ _ _ _)) rfl ?_;rw[E.out]
            exact⟨rfl,((I.out.trans T.out).then l.out (fun i hi=>Or.inl (by
             have h1:i=g3:=hi;have N:=Y.out.2.2.2.2;have Z:=I.out.size
             omega))).then (sC (Kept.refl (aA g) _) _ _ _ _ _ _ _ _ _) (fun i hi=>Or.inl (by
             have h1:i=g:=hi;rw[h1]
             exact HG.out))⟩
           |some v=>
            rw[t (by rw[D];rfl),D,Ic,Hd];have HV8:Hid (v=iW bs q):=Qh (by rw[iW,D];rfl);have zR:Hid (BF (aY (aj bs q))=true):=Qh (by rw[D];rfl);clear D t oU;go_wp2;go_roundw
            case rel=>
             refine⟨k+1,by omega,by go_num,Qh (l.out.setCell (a:=⟨g3,k,none⟩) (Or.inr (show aA g3 g3 from rfl)) _),Qh ?_,Qh (fun j hj=>?_)⟩
             ·have h1:=B8 d.out k (.int .i64 v)
              rw[HV8.out,HQ.out,TM bs ay]at h1;rw[HV8.out,HQ.out];exact h1
             ·rcases Nat.lt_or_ge j k with h1|h1
              ·exact r.out j h1
              ·obtain rfl:j=k:=by omega
               rw[←HQ.out];exact zR.out
            case measure=>simp[RowKit.intOf];omega
          ·obtain rfl:k=5:=by omega
           have HT:Hid (aR bs=(oS bs,0)):=Qh (yf A.out Xv.out BS.out (pR.2 (VD fun j hj=>r.out j hj)));have ha5:_=some (Obj.cells #[.int .i64 (iW bs 1),.int .i64 (iW bs 2),.int .i64 (iW bs 3),.int .i64 (iW bs 5),.int .i64 (iW bs 4)] 117 (0,0)):=d.out;have ca:=bC ha5;have h28:=l.out.some_ H27.out Y.out.2.1;have c2:=bC h28;have f2:=ct h28;have m:=l.out.some_ HG7.out Y.out.1;have u:=Qh m;have c0:=bC m;have f0:=ct m;unfold jD at c0;have ZR:¬g2=g3:=Y.out.2.1;have WR:¬g3=g2:=fun e=>ZR e.symm
           have Q1:¬g=g2:=Y.out.2.2.2.1;have hn4:¬g2=g:=fun e=>Q1 e.symm
           have S9:Hid (oF (aR bs)=.tuple #[.agg #[.string nm,.string (str (av (aj bs 8))),.int .u8 f,.int .i64 (iW bs 1),.int .i64 (iW bs 2),.int .i64 (iW bs 3),.int .i64 (iW bs 5),.int .i64 (iW bs 4),.bool B],.int .i64 0]):=Qh (by
            rw[HT.out];simp only[oF,aa,oS,Iu.out]
            rw[U.out,G.out])
           go_wp2;refine bodyPost_ret (jR rfl _ _ g _ rfl rfl _ _ _ _ _ _ _ _ _ (oQ ((Z6 (Kept.refl (aA g2) _) _ _ _ _ _).some_ u.out Q1) _ _ _ _ _ _ _ _ _)) rfl ?_;rw[S9.out]
           exact⟨rfl,(((I.out.trans T.out).then l.out (fun i hi=>Or.inl (by
            have h1:i=g3:=hi;have N:=Y.out.2.2.2.2;have Z:=I.out.size
            omega))).then (Z6 (Kept.refl (aA g2) _) _ _ _ _ _) (fun i hi=>Or.inl (by
            have h1:i=g2:=hi;have N:=sW.out;have Z:=I.out.size
            omega))).then (sC (Kept.refl (aA g) _) _ _ _ _ _ _ _ _ _) (fun i hi=>Or.inl (by
            have h1:i=g:=hi;rw[h1]
            exact HG.out))⟩
    ·have hu:¬aj bs 9=kf:=fun h=>L (.inl h)
     have zk:¬aj bs 9=xZ:=fun h=>L (.inr h)
     have E:Hid (aR bs=(bg,9)):=Qh (Cp A.out Xv.out ⟨hu,zk⟩);have q1:((str (aj bs 9)).toList==[117,115,116,97,114,0,48,48])=false:=by rw[ak];exact beq_eq_false_iff_ne.2 hu
     have q2:((str (aj bs 9)).toList==[117,115,116,97,114,32,32,0])=false:=by rw[ak];exact beq_eq_false_iff_ne.2 zk
     have c0:=bC J.out;have f0:=ct J.out;unfold jD at c0;clear hu zk L;go_wp2;refine bodyPost_ret (jR rfl _ _ g _ rfl rfl ⟨#[]⟩ ⟨#[]⟩ 0 0 0 0 0 0 false (oQ J.out _ _ _ _ _ _ _ _ _)) rfl ?_;rw[E.out]
     exact⟨rfl,I.out.then (sC (Kept.refl (aA g) _) _ _ _ _ _ _ _ _ _) (fun i hi=>Or.inl (by
      have h1:i=g:=hi;rw[h1]
      exact HG.out))⟩
   ·have E:Hid (aR bs=(bg,3)):=Qh (vH A.out (by
     rw[Tj.out,←HX.out];intro e
     exact hsX (Option.some.inj e)))
    have c0:=bC J.out;have f0:=ct J.out;unfold jD at c0;go_wp2_with fail;refine(Kn (some ⟨b,o,none⟩) 512 c bs w0 (by omega) O.out).mono ?_;rintro e w' ⟨rfl,rfl⟩;rw[←HX.out];have hbX:(sm==(X:Int))=false:=by simpa using hsX
    go_wp2;refine bodyPost_ret (jR rfl _ _ g _ rfl rfl ⟨#[]⟩ ⟨#[]⟩ 0 0 0 0 0 0 false (oQ J.out _ _ _ _ _ _ _ _ _)) rfl ?_;rw[E.out]
    exact⟨rfl,I.out.then (sC (Kept.refl (aA g) _) _ _ _ _ _ _ _ _ _) (fun i hi=>Or.inl (by
     have h1:i=g:=hi;rw[h1]
     exact HG.out))⟩
 ·have E:Hid (aR bs=(bg,1)):=Qh (E6 (by rw[A.out];exact Jb))
  have hb:((n:Int)==512)=false:=by simp;omega
  have la:Kept ag w (w.alloc (.cells #[.string ⟨#[]⟩,.string ⟨#[]⟩,.int .u8 0,.int .i64 0,.int .i64 0,.int .i64 0,.int .i64 0,.int .i64 0,.bool false] 66)):=(Kept.refl ag w).alloc _;have I:=Qh la;clear la
  go_enter Tryz.func32,Tryz.ntmps32
  go_wp2;refine bodyPost_ret (jR rfl _ _ w.heap.size _ rfl rfl ⟨#[]⟩ ⟨#[]⟩ 0 0 0 0 0 0 false (heap_alloc_new _ _)) rfl ?_;rw[E.out];exact⟨rfl,I.out⟩
end Head
end Go.Proofs.YtdhibldkldlfpaaGreatDoor
