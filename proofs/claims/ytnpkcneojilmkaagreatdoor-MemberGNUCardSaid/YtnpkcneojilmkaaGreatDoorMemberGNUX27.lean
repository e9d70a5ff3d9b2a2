/- Texts of this seat, merged: what the proof reaches. -/
import Derived.Test.YtnpkcneojilmkaaGreatDoorMemberGNUX26
import Derived.Test.YtnpkcneojilmkaaGreatDoorMemberGNUX20
import Derived.Test.YtnpkcneojilmkaaGreatDoorMemberGNUX23
import Derived.StillTailTactics
section
namespace Go.Proofs.YtnpkcneojilmkaaGreatDoor.Head
open Go.ChangeShapes Go.WideShapes Go.ChangeAt Go.RowKit Base Byt Txt Hp Go.Proofs.YtnpkcneojilmkaaGreatDoor.Mp Fp Go.Proofs.YtnpkcneojilmkaaGreatDoor.Field Go.Lib
set_option linter.unusedVariables false
set_option maxRecDepth 100000
def noZ (l:List UInt8) (k:Nat):Bool:=!(l.take k).contains 0
theorem noZ_zero (l:List UInt8):noZ l 0=true:=rfl
theorem noZ_succ {l:List UInt8} {k:Nat} (hk:k < l.length):noZ l (k+1)=(noZ l k && l.getD k 0 != 0):=by
 unfold noZ;rw [List.take_add_one,List.getElem?_eq_getElem hk];have e:l.getD k 0=l[k]:=by simp [List.getD,hk]
 rw [e];simp only [Option.toList_some,List.contains_append,Bool.not_or]
 congr 1
 simp only [List.contains_cons,List.contains_nil,Bool.or_false,bne];rw [show ((0:UInt8) == l[k])=(l[k] == 0) from Bool.beq_comm]
theorem noZ_all (l:List UInt8):noZ l l.length=!l.contains 0:=by unfold noZ;rw [List.take_length]
def ordP:Nat → Nat
 | 0 => 1 | 1 => 2 | 2 => 3 | 3 => 5 | _ => 4
theorem ordP_in {k:Nat} (hk:k < 5):1≤ordP k∧ordP k≤5∧atF (ordP k)+wideF (ordP k)≤512∧2≤wideF (ordP k)∧wideF (ordP k)≤12:=by
 rcases (show k=0 ∨ k=1 ∨ k=2 ∨ k=3 ∨ k=4 by omega) with rfl | rfl | rfl | rfl | rfl<;>decide
theorem ordP_all {P:Nat → Prop} (h:∀ k,k < 5 → P (ordP k)):∀ i,1≤i → i≤5 → P i:=fun i h1 h2 => by
 rcases (show i=1 ∨ i=2 ∨ i=3 ∨ i=4 ∨ i=5 by omega) with rfl | rfl | rfl | rfl | rfl
 ·exact h 0 (by omega)
 ·exact h 1 (by omega)
 ·exact h 2 (by omega)
 ·exact h 4 (by omega)
 ·exact h 3 (by omega)
theorem numC_get (h:HeadV) {k:Nat} (hk:k < 5):(#[Value.int .i64 h.mode,.int .i64 h.uid,.int .i64 h.gid,.int .i64 h.time,.int .i64 h.size]:Array Value)[k]? = some (.int .i64 (numH h (ordP k))):=by
 rcases (show k=0 ∨ k=1 ∨ k=2 ∨ k=3 ∨ k=4 by omega) with rfl | rfl | rfl | rfl | rfl<;>rfl
theorem frC_get {k:Nat} (hk:k < 5):(#[Value.int .i64 100,.int .i64 108,.int .i64 116,.int .i64 136,.int .i64 124]:Array Value)[k]? = some (.int .i64 (atF (ordP k))):=by
 rcases (show k=0 ∨ k=1 ∨ k=2 ∨ k=3 ∨ k=4 by omega) with rfl | rfl | rfl | rfl | rfl<;>rfl
theorem wdC_get {k:Nat} (hk:k < 5):(#[Value.int .i64 8,.int .i64 8,.int .i64 8,.int .i64 12,.int .i64 12]:Array Value)[k]? = some (.int .i64 (wideF (ordP k))):=by
 rcases (show k=0 ∨ k=1 ∨ k=2 ∨ k=3 ∨ k=4 by omega) with rfl | rfl | rfl | rfl | rfl<;>rfl
theorem index5 (b k:Nat) (hk:k < 5) (w:World):(Instr.indexAt 49 (.slice (some ⟨b,0,none⟩) 5 5) (.int .i64 (k:Int))).run Tryz.prog w=.ok (.pointer (some ⟨b,k,none⟩)) w:=by
 have fl:=Tryz.underlying49;have f5:=Tryz.sizeOf3;have h1:(k:Int) < 5:=by omega
 go_simp
theorem load5 (w:World) (a:Addr) (k:Int) (h:w.cell? a=some (.int .i64 k)):(Instr.loadAt 3 (.pointer (some a))).run Tryz.prog w=.ok (.int .i64 k) w:=by
 go_simp
def ownK (h:HeadV):Nat → Nat → List UInt8
 | 0 => zeroO
 | k+1 => upd (ownK h k) (ordP k) (numB h (ordP k))
theorem ownK_fits {h:HeadV}:∀ {k:Nat},(∀ j,j < k → (putF (numH h (ordP j)) (wideF (ordP j))).isSome=true) → Fits (ownK h k)
 | 0,_ => zeroO_fits
 | k+1,hs => (ownK_fits fun j hj => hs j (by omega)).upd (numB_length (hs k (by omega)))
theorem copy_step {w:World} {g:Nat} {own:Nat → List UInt8} (hF:Fits own) {i:Nat} (hi:i < 11) {cs:List UInt8} (hl:cs.length≤wideF i) (hr:RowB w g (splice (blockA own) (atF i) cs)):RowB w g (blockA (upd own i (putInto (own i) cs))):=by
 rw [splice_blockA hF hi hl] at hr;exact hr
theorem copy_fits {own:Nat → List UInt8} (hF:Fits own) {i:Nat} {cs:List UInt8} (hl:cs.length≤wideF i):Fits (upd own i (putInto (own i) cs)):=
 hF.upd (by rw [putInto_length (by rw [hF i];exact hl)];exact hF i)
theorem getD_set (L:List UInt8) (i j:Nat) (x:UInt8) (hi:i < L.length):(L.set i x).getD j 0=if i=j then x else L.getD j 0:=by
 simp only [List.getD,List.getElem?_set]
 by_cases h:i=j
 ·subst h;simp [hi]
 ·simp [h]
theorem set_splice (L:List UInt8) (i:Nat) (x:UInt8) (h:i < L.length):L.set i x=splice L i [x]:=by
 refine getD_ext (by rw [List.length_set,length_splice _ _ _ (by simp;omega)]) fun j _ => ?_
 rw [getD_set _ _ _ _ h,splice_get _ _ _ _ (by simp;omega)]
 by_cases hj:i=j
 ·subst hj;simp
 ·rw [if_neg hj,if_neg (by simp;omega)]
theorem splice_snoc (L cs:List UInt8) (off:Nat) (x:UInt8) (h:off+cs.length+1≤L.length):(splice L off cs).set (off+cs.length) x=splice L off (cs++[x]):=by
 have h0:(splice L off cs).length=L.length:=length_splice _ _ _ (by omega)
 refine getD_ext (by rw [List.length_set,h0,length_splice _ _ _ (by simp;omega)]) fun j _ => ?_
 rw [getD_set _ _ _ _ (by rw [h0];omega),splice_get _ _ _ _ (by omega),splice_get _ _ _ _ (by simp;omega)]
 by_cases hj:off+cs.length=j
 ·subst hj
  rw [if_pos rfl,if_pos (by simp)]
  simp [List.getD]
 ·rw [if_neg hj]
  by_cases hj1:off≤j∧j < off+cs.length
  ·rw [if_pos hj1,if_pos (by simp;omega)]
   simp only [List.getD];rw [List.getElem?_append_left (by omega)]
  ·rw [if_neg hj1,if_neg (by simp;omega)]
def finalO (h:HeadV) (p s:List UInt8):Nat → List UInt8:=
 let a:=ownK h 5
 let b:=upd a 0 (putInto (a 0) s)
 let c:=upd b 10 (putInto (b 10) p)
 let d:=upd c 8 (putInto (c 8) h.link)
 let e:=upd d 9 (putInto (d 9) ustarB)
 upd e 7 (putInto (e 7) [h.kind])
theorem ownK_field (h:HeadV):ownK h 5 0=zeroO 0∧ownK h 5 6=zeroO 6∧ownK h 5 7=zeroO 7∧ownK h 5 8=zeroO 8∧ownK h 5 9=zeroO 9∧ownK h 5 10=zeroO 10 ∧ ∀ i,1≤i → i≤5 → ownK h 5 i=numB h i:=by
 refine ⟨rfl,rfl,rfl,rfl,rfl,rfl,fun i h1 h2 => ?_⟩
 rcases (show i=1 ∨ i=2 ∨ i=3 ∨ i=4 ∨ i=5 by omega) with rfl | rfl | rfl | rfl | rfl<;>rfl
theorem final_own (h:HeadV) (p s:List UInt8) (hF:Fits (ownK h 5)) (hs:s.length≤100) (hp:p.length≤155) (hl:h.link.length≤100) (hn:numsOk h=true):finalO h p s=own1 h p s:=by
 obtain ⟨k0,k6,k7,k8,k9,k10,k15⟩:=ownK_field h;obtain ⟨e0,e6,e7,e8,e9,e10,e15⟩:=own1_field h p s
 have hf:Fits (finalO h p s):=by
  unfold finalO;exact copy_fits (copy_fits (copy_fits (copy_fits (copy_fits hF (i:=0) hs) (i:=10) hp) (i:=8) hl) (i:=9) (show ustarB.length≤wideF 9 by decide)) (i:=7) (show 1≤wideF 7 by decide)
 refine fits_ext hf (own1_fits hs hp hl hn) fun i hi => ?_
 have z:∀ j,zeroO j=List.replicate (wideF j) 0:=fun _ => rfl
 rcases cases11 hi with rfl | rfl | rfl | rfl | rfl | rfl | rfl | rfl | rfl | rfl | rfl
 ·rw [e0,← putInto_zero]
  show putInto (ownK h 5 0) s=_;rw [k0];rfl
 ·rw [e15 1 (by omega) (by omega)];exact k15 1 (by omega) (by omega)
 ·rw [e15 2 (by omega) (by omega)];exact k15 2 (by omega) (by omega)
 ·rw [e15 3 (by omega) (by omega)];exact k15 3 (by omega) (by omega)
 ·rw [e15 4 (by omega) (by omega)];exact k15 4 (by omega) (by omega)
 ·rw [e15 5 (by omega) (by omega)];exact k15 5 (by omega) (by omega)
 ·rw [e6];exact k6
 ·rw [e7]
  show putInto (ownK h 5 7) [h.kind]=_;rw [k7];rfl
 ·rw [e8,← putInto_zero]
  show putInto (ownK h 5 8) h.link=_;rw [k8];rfl
 ·rw [e9]
  show putInto (ownK h 5 9) ustarB=_;rw [k9];rfl
 ·rw [e10,← putInto_zero]
  show putInto (ownK h 5 10) p=_;rw [k10];rfl
set_option maxHeartbeats 8000000 in
theorem rputH_any (h:HeadV) (hwf:∀ i,(Lit.int .i64 (numH h i)).wf=true) (hnl:h.name.length≤140737488351232) (hll:h.link.length≤140737488351232) (w:World) :
 Calls Tryz.prog 13 #[.agg #[.string (str h.name),.string (str h.link),.int .u8 (h.kind.toNat:Int),.int .i64 h.mode,.int .i64 h.uid,.int .i64 h.gid,.int .i64 h.time,.int .i64 h.size,.bool h.gnu]] w (PutHPost w (putR h)):=by
 obtain ⟨nm,hnm⟩:∃ nm,nm=str h.name:=⟨_,rfl⟩;obtain ⟨ln,hln⟩:∃ ln,ln=str h.link:=⟨_,rfl⟩;obtain ⟨kd,hkd⟩:∃ kd:Int,kd=(h.kind.toNat:Int):=⟨_,rfl⟩;have HNM:=Lib.hid hnm;have HND:Hid (nm.data.toList=h.name):=Lib.hid (by rw [hnm,str_data])
 have HLD:Hid (ln.data.toList=h.link):=Lib.hid (by rw [hln,str_data])
 have HNS:Hid (nm.size=h.name.length):=Lib.hid (by rw [hnm,str_size])
 have HLS:Hid (ln.size=h.link.length):=Lib.hid (by rw [hln,str_size])
 have hnz:nm.size≤140737488351232:=by rw [HNS.out];exact hnl
 have hlz:ln.size≤140737488351232:=by rw [HLS.out];exact hll
 have HKV:=Lib.hid hkd;rw [← hnm,← hln,← hkd];have HWF:=Lib.hid hwf;obtain ⟨i0,hi0,hz0,hz1,hz2⟩:=info_parts infoByte;have HIN:=Lib.hid hi0;have HZ0:=Lib.hid hz0;have HZ1:=Lib.hid hz1;have HZ2:=Lib.hid hz2;clear hi0 hz0 hz1 hz2;obtain ⟨gb,hgb⟩:∃ gb,gb=w.heap.size:=⟨_,rfl⟩;obtain ⟨w0,hw0⟩:∃ w0,w0=w.alloc (.cells #[.string nm,.string ln,.int .u8 kd,.int .i64 h.mode,.int .i64 h.uid,.int .i64 h.gid,.int .i64 h.time,.int .i64 h.size,.bool h.gnu] 41):=⟨_,rfl⟩;have HW:Hid (Kept noneB w w0):=Lib.hid (by rw [hw0];exact (Kept.refl _ _).alloc _)
 have HB0:Hid (w0.heap[gb]? = some (.cells #[.string nm,.string ln,.int .u8 kd,.int .i64 h.mode,.int .i64 h.uid,.int .i64 h.gid,.int .i64 h.time,.int .i64 h.size,.bool h.gnu] 41 (0,0))):=Lib.hid (by rw [hw0,hgb];exact heap_alloc_new _ _)
 have HGB:Hid (w.heap.size≤gb):=Lib.hid (by omega)
 clear hwf hnm hln hkd hnl hll
 go_enter Tryz.func13,Tryz.ntmps13
 go_wp2_with fail
 rw [← hw0,← hgb];clear hw0 hgb;refine (rcut_any nm w0 hnz).mono ?_
 rintro e w1 ⟨rfl,hk1⟩;rw [HND.out];have HK1:=Lib.hid (HW.out.trans hk1);have c1:=cellsAt (hk1.some_ HB0.out id);have HB1:=Lib.hid (hk1.some_ HB0.out id);clear hk1
 cases hcut:cutR h.name with
 | none =>
   rw [cutV_none hcut];have HR:=Lib.hid (putR_cut hcut);clear hcut
   go_wp2
   go_ret2
   exact ⟨HK1.out,Or.inr ⟨HR.out,rfl⟩⟩
 | some ps =>
   obtain ⟨p,s⟩:=ps;rw [cutV_some hcut];have HCUT:=Lib.hid hcut;have HSP:=Lib.hid (cutR_spec hcut);clear hcut;have bad:badH h=true → putR h=none:=putR_bad;have HBAD:=Lib.hid bad;clear bad
   by_cases hlk:100 < ln.size
   ·have HR:Hid (putR h=none):=Lib.hid (HBAD.out (by
     have h1:100 < h.link.length:=by rw [← HLS.out];exact hlk
     unfold badH;simp [h1]))
    go_wp2
    go_ret2
    exact ⟨HK1.out,Or.inr ⟨HR.out,rfl⟩⟩
   ·cases hgn:h.gnu with
    | true =>
      have HR:Hid (putR h=none):=Lib.hid (HBAD.out (by unfold badH;rw [hgn];rfl))
      rw [hgn] at c1
      go_wp2
      go_ret2
      exact ⟨HK1.out,Or.inr ⟨HR.out,rfl⟩⟩
    | false =>
      have HGN:=Lib.hid hgn;rw [hgn] at c1;clear hgn
      by_cases hz:kd=0
      ·have HR:Hid (putR h=none):=Lib.hid (HBAD.out (by
        have h1:h.kind=0:=UInt8.toNat.inj (show h.kind.toNat=0 by have:=HKV.out;omega)
        unfold badH;rw [h1];simp))
       have hkz:(kd == 0)=true:=by rw [hz];rfl
       go_wp2
       go_ret2
       exact ⟨HK1.out,Or.inr ⟨HR.out,rfl⟩⟩
      ·have hkz:(kd == 0)=false:=by simpa using hz
       have HBD:Hid (badH h=(h.name.contains 0 || h.link.contains 0)):=Lib.hid (by
        have h1:(h.kind == 0)=false:=by
         rw [beq_eq_false_iff_ne];intro e;exact hz (by rw [HKV.out,e];rfl)
        have h2:¬ 100 < h.link.length:=by rw [← HLS.out];exact hlk
        unfold badH;rw [HGN.out,h1]
        simp [h2])
       go_wp2_with fail
       clear hkz
       go_loop [6,7] (fun ok i => ∃ (k:Nat) (q:Bool),k≤nm.size∧i=.int .i64 k∧ok=.bool q∧Hid (q=noZ h.name k)) (fun _ i => nm.size - (RowKit.intOf i).toNat)
       case atStart => exact ⟨0,_,Nat.zero_le _,rfl,rfl,Lib.hid (by rw [noZ_zero])⟩
       case round =>
        obtain ⟨k,q,hk,rfl,rfl,hq⟩:=hrel
        by_cases hlt:k < nm.size
        ·have hxg:Hid (nm[k]=h.name.getD k 0):=Lib.hid (by rw [← s_at nm k hlt,HND.out])
         have HLT:Hid (k < h.name.length):=Lib.hid (by rw [← HNS.out];exact hlt)
         cases q with
         | false =>
           go_wp2
           go_round
           case rel => exact ⟨k+1,false,by omega,by go_num,rfl,Lib.hid (by rw [noZ_succ HLT.out,← hq.out];rfl)⟩
           case measure => simp [RowKit.intOf];omega
         | true =>
           by_cases hc:nm[k]=0
           ·have hcb:(((nm[k]).toNat:Int) == 0)=true:=by rw [hc];rfl
            have HC:Hid ((h.name.getD k 0 != 0)=false):=Lib.hid (by rw [← hxg.out,hc];rfl)
            go_wp2
            go_round
            case rel => exact ⟨k+1,false,by omega,by go_num,(by first | rfl | (show Value.bool (!(((nm[k]).toNat:Int) == 0))=Value.bool false;rw [hcb];rfl)),Lib.hid (by rw [noZ_succ HLT.out,HC.out];simp)⟩
            case measure => simp [RowKit.intOf];omega
           ·have hcb:(((nm[k]).toNat:Int) == 0)=false:=by
             rw [beq_eq_false_iff_ne];intro e;exact hc (UInt8.toNat.inj (show (nm[k]).toNat=0 by omega))
            have HC:Hid ((h.name.getD k 0 != 0)=true):=Lib.hid (by rw [← hxg.out];simpa using hc)
            go_wp2
            go_round
            case rel => exact ⟨k+1,true,by omega,by go_num,(by show Value.bool (!(((nm[k]).toNat:Int) == 0))=Value.bool true;rw [hcb];rfl),Lib.hid (by rw [noZ_succ HLT.out,HC.out,Bool.and_true];exact hq.out)⟩
            case measure => simp [RowKit.intOf];omega
        ·have hkl:Hid (k=h.name.length):=Lib.hid (by rw [← HNS.out];omega)
         have hq2:Hid (q=noZ h.name h.name.length):=Lib.hid (by rw [hq.out,hkl.out])
         clear hq hkl
         go_wp2_with fail
         clear hlt hk
         go_loop [6,8] (fun ok i => ∃ (k:Nat) (q:Bool),k≤ln.size∧i=.int .i64 k∧ok=.bool q∧Hid (q=(noZ h.name h.name.length && noZ h.link k))) (fun _ i => ln.size - (RowKit.intOf i).toNat)
         case atStart => exact ⟨0,_,Nat.zero_le _,rfl,rfl,Lib.hid (by rw [noZ_zero,Bool.and_true];exact hq2.out)⟩
         case round =>
          obtain ⟨k,q,hk,rfl,rfl,hq⟩:=hrel
          by_cases hlt:k < ln.size
          ·have hxg:Hid (ln[k]=h.link.getD k 0):=Lib.hid (by rw [← s_at ln k hlt,HLD.out])
           have HLT:Hid (k < h.link.length):=Lib.hid (by rw [← HLS.out];exact hlt)
           cases q with
           | false =>
             go_wp2
             go_round
             case rel => exact ⟨k+1,false,by omega,by go_num,rfl,Lib.hid (by rw [noZ_succ HLT.out,← Bool.and_assoc,← hq.out];rfl)⟩
             case measure => simp [RowKit.intOf];omega
           | true =>
             by_cases hc:ln[k]=0
             ·have hcb:(((ln[k]).toNat:Int) == 0)=true:=by rw [hc];rfl
              have HC:Hid ((h.link.getD k 0 != 0)=false):=Lib.hid (by rw [← hxg.out,hc];rfl)
              go_wp2
              go_round
              case rel => exact ⟨k+1,false,by omega,by go_num,(by first | rfl | (show Value.bool (!(((ln[k]).toNat:Int) == 0))=Value.bool false;rw [hcb];rfl)),Lib.hid (by rw [noZ_succ HLT.out,HC.out];simp)⟩
              case measure => simp [RowKit.intOf];omega
             ·have hcb:(((ln[k]).toNat:Int) == 0)=false:=by
               rw [beq_eq_false_iff_ne];intro e;exact hc (UInt8.toNat.inj (show (ln[k]).toNat=0 by omega))
              have HC:Hid ((h.link.getD k 0 != 0)=true):=Lib.hid (by rw [← hxg.out];simpa using hc)
              go_wp2
              go_round
              case rel => exact ⟨k+1,true,by omega,by go_num,(by show Value.bool (!(((ln[k]).toNat:Int) == 0))=Value.bool true;rw [hcb];rfl),Lib.hid (by rw [noZ_succ HLT.out,HC.out,Bool.and_true];exact hq.out)⟩
              case measure => simp [RowKit.intOf];omega
          ·have hkl:Hid (k=h.link.length):=Lib.hid (by rw [← HLS.out];omega)
           have hq3:Hid (q=!badH h):=Lib.hid (by
            rw [hq.out,hkl.out,noZ_all,noZ_all,HBD.out,Bool.not_or])
           go_wp2_with (at_make;refine wpList_make_full _ rfl _ _ 24 rfl w1.heap.size 5 i0 (.int .u8 0) 1 Tryz.underlying24 HIN.out HZ0.out HZ1.out .i64 .i64 _ _ 512 rfl rfl rfl rfl (by rw [HZ2.out];omega) (by decide) (Nat.le_refl _) ?_)
           intro w2 hown hgrow;have hrow:=rowB_own hown;rw [← blockA_zero] at hrow;have hk2:Kept noneB w1 w2:=(Kept.refl noneB w1).grown hgrow (fun k hk => by cases hk)
           obtain ⟨g,hg⟩:∃ g,g=w1.heap.size:=⟨_,rfl⟩;rw [← hg] at hrow ⊢;have HROW:=Lib.hid hrow;have HK2:=Lib.hid (HK1.out.trans hk2);have HGE:Hid (w.heap.size≤g):=Lib.hid (by have:=HK1.out.size;omega)
           have HGG:Hid (gb≠g):=Lib.hid (by have:=(Array.getElem?_eq_some_iff.1 HB1.out).1;omega)
           have HB2:=Lib.hid (hk2.some_ HB1.out id);have c2:=cellsAt HB2.out;rw [HGN.out] at c2;have HQ3:=Lib.hid hq3.out;clear hown hgrow hrow hk2 hg c1 hlt hk hkl hq hq3;obtain ⟨n1,hn1⟩:∃ n1,n1=w2.heap.size:=⟨_,rfl⟩;obtain ⟨w3,hw3⟩:∃ w3,w3=((w2.alloc (.cells #[.int .i64 h.mode,.int .i64 h.uid,.int .i64 h.gid,.int .i64 h.time,.int .i64 h.size] 3)).alloc (.cells #[.int .i64 100,.int .i64 108,.int .i64 116,.int .i64 136,.int .i64 124] 3)).alloc (.cells #[.int .i64 8,.int .i64 8,.int .i64 8,.int .i64 12,.int .i64 12] 3):=⟨_,rfl⟩;have hk3:Kept noneB w2 w3:=by rw [hw3];exact (((Kept.refl noneB w2).alloc _).alloc _).alloc _
           have HA1:Hid (w3.heap[n1]? = some (.cells #[.int .i64 h.mode,.int .i64 h.uid,.int .i64 h.gid,.int .i64 h.time,.int .i64 h.size] 3 (0,0))):=Lib.hid (by
            rw [hw3,hn1]
            exact ((((Kept.refl noneB _).alloc _).alloc _).some_ (heap_alloc_new w2 _) id))
           have HA2:Hid (w3.heap[n1+1]? = some (.cells #[.int .i64 100,.int .i64 108,.int .i64 116,.int .i64 136,.int .i64 124] 3 (0,0))):=Lib.hid (by
            have h1:=((Kept.refl noneB _).alloc (.cells #[.int .i64 8,.int .i64 8,.int .i64 8,.int .i64 12,.int .i64 12] 3)).some_ (heap_alloc_new (w2.alloc (.cells #[.int .i64 h.mode,.int .i64 h.uid,.int .i64 h.gid,.int .i64 h.time,.int .i64 h.size] 3)) (.cells #[.int .i64 100,.int .i64 108,.int .i64 116,.int .i64 136,.int .i64 124] 3)) id;rw [← hw3,World.size_alloc,← hn1] at h1
            exact h1)
           have HA3:Hid (w3.heap[n1+2]? = some (.cells #[.int .i64 8,.int .i64 8,.int .i64 8,.int .i64 12,.int .i64 12] 3 (0,0))):=Lib.hid (by
            have h1:=heap_alloc_new ((w2.alloc (.cells #[.int .i64 h.mode,.int .i64 h.uid,.int .i64 h.gid,.int .i64 h.time,.int .i64 h.size] 3)).alloc (.cells #[.int .i64 100,.int .i64 108,.int .i64 116,.int .i64 136,.int .i64 124] 3)) (.cells #[.int .i64 8,.int .i64 8,.int .i64 8,.int .i64 12,.int .i64 12] 3);rw [← hw3,World.size_alloc,World.size_alloc,← hn1] at h1
            exact h1)
           have HK3:=Lib.hid (HK2.out.trans hk3);have HR3:=Lib.hid (HROW.out.kept hk3 id);have HB3:=Lib.hid (hk3.some_ HB2.out id);have HGN1:Hid (g < n1):=Lib.hid (by rw [hn1];exact HROW.out.lt)
           clear hk3
           go_wp2_with fail
           rw [← hw3,← hn1];clear hw3 hn1 c2
           go_loopw [13] (fun i wr => ∃ k:Nat,k≤5∧i=.int .i64 k∧Hid (Kept (oneB g) w3 wr)∧Hid (RowB wr g (blockA (ownK h k)))∧Hid (∀ j,j < k → (putF (numH h (ordP j)) (wideF (ordP j))).isSome=true)∧Hid (k=0 ∨ q=true)) (fun i _ => 5 - (RowKit.intOf i).toNat)
           case atStart => exact ⟨0,by omega,rfl,Lib.hid (Kept.refl _ _),HR3,Lib.hid (fun j hj => absurd hj (by omega)),Lib.hid (Or.inl rfl)⟩
           case round =>
            obtain ⟨k,hk,rfl,hk8,hr8,hall,hq8⟩:=hrel
            by_cases hlt:k < 5
            ·have ca:=cellsAt (hk8.out.some_ HA1.out (fun e => by have e:n1=g:=e;have:=HGN1.out;omega)) k
             rw [numC_get h hlt] at ca;have cb:=cellsAt (hk8.out.some_ HA2.out (fun e => by have e:n1+1=g:=e;have:=HGN1.out;omega)) k
             rw [frC_get hlt] at cb;have cc:=cellsAt (hk8.out.some_ HA3.out (fun e => by have e:n1+2=g:=e;have:=HGN1.out;omega)) k
             rw [wdC_get hlt] at cc;obtain ⟨ho1,ho2,ho3,ho4,ho5⟩:=ordP_in hlt;obtain ⟨i,hi⟩:∃ i,i=ordP k:=⟨_,rfl⟩;rw [← hi] at ca cb cc ho1 ho2 ho3 ho4 ho5;have HI:=Lib.hid hi;clear hi
             go_wp2_with fail
             refine wp_region_any (by kernel_rfl) (rput_region (w3:=wr) (.slice (some ⟨n1,0,none⟩) 5 5) (.slice (some ⟨n1+1+1,0,none⟩) 5 5) (k:Int) ⟨n1,k,none⟩ ⟨n1+2,k,none⟩ (numH h i) (wideF i:Int) (PutS (putF (numH h i) (wideF i))) (show 152≤152 from Nat.le_refl 152) rfl rfl rfl (fun w => index5 n1 k hlt w) (fun w => index5 (n1+2) k hlt w) (fun w hk => load5 w _ _ (cellsAt (hk.some_ (hk8.out.some_ HA1.out (fun e => by have e:n1=g:=e;have:=HGN1.out;omega)) id) k |>.trans (by rw [numC_get h hlt,HI.out]))) (fun w hk => load5 w _ _ (cellsAt (hk.some_ (hk8.out.some_ HA3.out (fun e => by have e:n1+2=g:=e;have:=HGN1.out;omega)) id) k |>.trans (by rw [wdC_get hlt,HI.out]))) (fun w hk => rput_s _ _ w (HWF.out i) (WalkArith.wf_i64 (by omega))) ?_)
             intro v y w4 hp hk4;have HK4:=Lib.hid hk4;have cb4:=cellsAt (hk4.some_ (hk8.out.some_ HA2.out (fun e => by have e:n1+1=g:=e;have:=HGN1.out;omega)) id) k
             rw [frC_get hlt,← HI.out] at cb4;have HR4:=Lib.hid (hr8.out.kept hk4 id);clear hk4 ca cb cc;simp only [Exit.then]
             apply_assumption
             rcases hp with ⟨l,sp,sc,hl,rfl,rfl,hlc,hsrc⟩ | ⟨hl,rfl,rfl⟩
             ·cases q with
              | false =>
                have HR:Hid (putR h=none):=Lib.hid (HBAD.out (by have:=HQ3.out;revert this;cases badH h<;>simp))
                go_wp2
                go_ret2
                exact ⟨(HK3.out.then hk8.out (fun i hi => Or.inl (by
                 have h1:i=g:=hi;rw [h1]
                 exact HGE.out))).trans HK4.out,Or.inr ⟨HR.out,rfl⟩⟩
              | true =>
                have HSOME:Hid ((putF (numH h i) (wideF i)).isSome=true):=Lib.hid (by rw [hl];rfl)
                have HNB:Hid (numB h i=bytesOf l):=Lib.hid (numB_some hl);have hll2:l.length=wideF i:=by rw [← bytesOf_length,← HNB.out];exact numB_length HSOME.out
                have HSRC:=Lib.hid hsrc;have HFK:=Lib.hid (ownK_fits hall.out);have HMN:Hid ((bytesOf l).length=Nat.min (wideF i) (512 - atF i)):=Lib.hid (by rw [bytesOf_length,hll2];exact (Nat.min_eq_left (by omega)).symm)
                have HSR2:Hid (BAt w4 sp (bytesOf l).length (bytesOf l)):=Lib.hid (by rw [bytesOf_length];exact HSRC.out)
                have HFIT:Hid (atF i+(bytesOf l).length≤(blockA (ownK h k)).length):=Lib.hid (by rw [bytesOf_length,blockA_length];omega)
                have hat:(atF i:Int)≤512:=by omega
                clear hl hsrc
                go_wp2_with (first | (refine wpList_copyB rfl _ _ 24 24 rfl 5 Tryz.underlying24 infoSz (some ⟨g,atF i,none⟩) sp (512 - atF i) (512 - atF i) (wideF i) sc rfl rfl g (atF i) (blockA (ownK h k)) HR4.out (bytesOf l) HMN.out (fun _ => by simp) HSR2.out HFIT.out ?_;intro w5 hr5 hk5 hs5) | go_in)
                have HK5:=Lib.hid hk5
                have HR5:Hid (RowB w5 g (blockA (ownK h (k+1)))):=Lib.hid (by
                 have h1:=hr5.out;rw [splice_blockA HFK.out (by omega) (by rw [bytesOf_length,hll2];exact Nat.le_refl _),putInto_all (by rw [bytesOf_length,hll2,HFK.out i]),← HNB.out] at h1
                 rw [ownK,← HI.out]
                 exact h1)
                clear hk5 hs5 hr5
                try go_frame
                try go_wp2
                go_roundw
                case rel =>
                 refine ⟨k+1,by omega,by go_num,Lib.hid ((hk8.out.trans (HK4.out.of_none _)).trans HK5.out),HR5,Lib.hid (fun j hj => ?_),Lib.hid (Or.inr (by simp))⟩
                 rcases Nat.lt_or_ge j k with h1 | h1
                 ·exact hall.out j h1
                 ·obtain rfl:j=k:=by omega
                  rw [← HI.out];exact HSOME.out
                case measure => simp [RowKit.intOf];omega
             ·have HR:Hid (putR h=none):=Lib.hid (putR_num (by
               cases hn:numsOk h with
               | false => rfl
               | true =>
                 have h1:=numsOk_iff.1 hn i ho1 ho2;rw [hl] at h1
                 cases h1))
              go_wp2
              go_ret2
              exact ⟨(HK3.out.then hk8.out (fun i hi => Or.inl (by
               have h1:i=g:=hi;rw [h1]
               exact HGE.out))).trans HK4.out,Or.inr ⟨HR.out,rfl⟩⟩
            ·obtain rfl:k=5:=by omega
             have hqt:q=true:=by
              rcases hq8.out with h1 | h1
              ·omega
              ·exact h1
             subst hqt;have HBF:Hid (badH h=false):=Lib.hid (by have:=HQ3.out;revert this;cases badH h<;>simp)
             have HNO:Hid (numsOk h=true):=Lib.hid (numsOk_iff.2 (ordP_all fun j hj => hall.out j hj))
             have HPR:=Lib.hid (putR_ok HCUT.out HBF.out HNO.out)
             have HKR:Hid (Kept noneB w wr):=Lib.hid (HK3.out.then hk8.out (fun i hi => Or.inl (by
              have h1:i=g:=hi;rw [h1]
              exact HGE.out)))
             have HBR:=Lib.hid (hk8.out.some_ HB3.out HGG.out);obtain ⟨oA,hoA⟩:∃ oA,oA=ownK h 5:=⟨_,rfl⟩;have hFA:Fits oA:=by rw [hoA];exact ownK_fits hall.out
             rw [← hoA] at hr8;have HOA:=Lib.hid hoA;have HFA:=Lib.hid hFA;have hsl:s.length≤100:=HSP.out.1;have hpl:p.length≤155:=HSP.out.2.1;have h5:¬ ((5:Int) < 5):=by omega
             clear hoA hFA
             go_wp2_with (first | (refine wpList_copyS rfl _ _ 24 9 rfl 5 Tryz.underlying24 infoSz (some ⟨g,0,none⟩) 512 512 (str s) rfl rfl g 0 (blockA oA) hr8.out s (by rw [str_data,List.take_of_length_le (by omega)]) (fun _ => rfl) (by rw [blockA_length];omega) ?_;intro w4 hr4 hk4 hs4) | go_in)
             have HR4:=Lib.hid (copy_step HFA.out (i:=0) (by omega) (show s.length≤wideF 0 from hsl) hr4.out)
             have HFB:=Lib.hid (copy_fits HFA.out (i:=0) (show s.length≤wideF 0 from hsl))
             have HK4:=Lib.hid hk4;clear hr4 hk4 hs4;have HP1:Hid (p=(str p).data.toList.take 167):=Lib.hid (by rw [str_data,List.take_of_length_le (by omega)])
             obtain ⟨oB,hoB⟩:∃ oB,oB=upd oA 0 (putInto (oA 0) s):=⟨_,rfl⟩;rw [← hoB] at HR4 HFB;have HOB:=Lib.hid hoB;have HP2:Hid (345+p.length≤(blockA oB).length):=Lib.hid (by rw [blockA_length];omega)
             clear hoB;obtain ⟨w5,hrun5,hr5,hk5,hs5⟩:=run_copyS (P:=Tryz.prog) (w:=w4) 24 9 3 5 Tryz.underlying24 infoSz (some ⟨g,345,none⟩) 167 167 (str p) g 345 (blockA oB) HR4.out p HP1.out (fun _ => rfl) HP2.out
             have hr5:=Lib.hid hr5;have HR5:=Lib.hid (copy_step HFB.out (i:=10) (by omega) (show p.length≤wideF 10 from hpl) hr5.out)
             have HFC:=Lib.hid (copy_fits HFB.out (i:=10) (show p.length≤wideF 10 from hpl))
             have HK5:=Lib.hid (HK4.out.trans hk5);have HB5:=Lib.hid (HK5.out.some_ HBR.out HGG.out);have c5:=cellsAt HB5.out;clear hr5 hk5 hs5
             go_wp2_with fail
             rw [hrun5];simp only [Result.andThen];rw [Oper.upon_value]
             apply_assumption
             clear hrun5
             go_wp2_with fail
             try go_frame
             go_still_tail 4,(by kernel_rfl)
             obtain ⟨oC,hoC⟩:∃ oC,oC=upd oB 10 (putInto (oB 10) p):=⟨_,rfl⟩;rw [← hoC] at HR5 HFC;have HOC:=Lib.hid hoC;have hll:h.link.length≤100:=by have:=HLS.out;omega
             have HLL:=Lib.hid hll;have HL1:Hid (h.link=ln.data.toList.take 355):=Lib.hid (by rw [HLD.out,List.take_of_length_le (by omega)])
             have HL2:Hid (157+h.link.length≤(blockA oC).length):=Lib.hid (by rw [blockA_length];omega)
             clear hoC hll;refine wpList_copyS rfl _ _ 24 9 rfl 5 Tryz.underlying24 infoSz (some ⟨g,157,none⟩) 355 355 ln rfl rfl g 157 (blockA oC) (HR5.out.kept (Kept.refl noneB _).drew id) h.link HL1.out (fun _ => rfl) HL2.out ?_
             intro w6 hr6 hk6 hs6;have HR6:=Lib.hid (copy_step HFC.out (i:=8) (by omega) (show h.link.length≤wideF 8 from HLL.out) hr6.out)
             have HFD:=Lib.hid (copy_fits HFC.out (i:=8) (show h.link.length≤wideF 8 from HLL.out))
             have HK6:Hid (Kept (oneB g) wr w6):=Lib.hid (HK5.out.drew.trans hk6);obtain ⟨oD,hoD⟩:∃ oD,oD=upd oC 8 (putInto (oC 8) h.link):=⟨_,rfl⟩;rw [← hoD] at HR6 HFD;have HOD:=Lib.hid hoD;clear hr6 hk6 hs6 hoD;have HU2:Hid (257+ustarB.length≤(blockA oD).length):=Lib.hid (by rw [blockA_length];decide)
             try go_frame
             have HU1:Hid (ustarB.length≤wideF 9):=Lib.hid (by decide)
             go_wp2_with (first | (refine wpList_copyS rfl _ _ 24 9 rfl 5 Tryz.underlying24 infoSz (some ⟨g,257,none⟩) 255 255 _ rfl rfl g 257 (blockA oD) HR6.out ustarB rfl (fun _ => rfl) HU2.out ?_;intro w7 hr7 hk7 hs7;have HR7:=Lib.hid (copy_step HFD.out (i:=9) (by omega) HU1.out hr7.out);have HK7:Hid (Kept (oneB g) wr w7):=Lib.hid (HK6.out.trans hk7);have c7:=cellsAt (HK7.out.some_ HBR.out HGG.out);have e156:=HR7.out.cell 156 (by rw [blockA_length];omega);have f156:=HR7.out.frozen 156;clear hr7 hk7 hs7) | fail)
             obtain ⟨oE,hoE⟩:∃ oE,oE=upd oD 9 (putInto (oD 9) ustarB):=⟨_,rfl⟩;rw [← hoE] at HR7;have hFE:Fits oE:=by rw [hoE];exact copy_fits HFD.out (i:=9) HU1.out
             have hr8:=HR7.out.set 156 h.kind;rw [← HKV.out,set_splice _ _ _ (by rw [blockA_length];omega)] at hr8
             have hr8:=copy_step hFE (i:=7) (by omega) (show [h.kind].length≤wideF 7 from Nat.le_refl _) hr8
             have hfin:upd oE 7 (putInto (oE 7) [h.kind])=own1 h p s:=by
              rw [hoE,HOD.out,HOC.out,HOB.out,HOA.out];exact final_own h p s (by rw [← HOA.out];exact HFA.out) HSP.out.1 HSP.out.2.1 HLL.out HNO.out
             rw [hfin] at hr8;obtain ⟨w8,hw8⟩:∃ w8,w8=w7.setCell ⟨g,156,none⟩ (.int .u8 kd):=⟨_,rfl⟩;rw [← hw8] at hr8 ⊢;have HK8:Hid (Kept (oneB g) wr w8):=Lib.hid (by rw [hw8];exact HK7.out.setCell (a:=⟨g,156,none⟩) (Or.inr (show oneB g g from rfl)) _)
             have HR8:=Lib.hid hr8;have hb8:=hr8.bat;rw [blockA_length] at hb8;obtain ⟨S,hS⟩:∃ S,S=sumTo (blockA (own1 h p s)) 512:=⟨_,rfl⟩;have hSL:=sumTo_le (blockA (own1 h p s)) 512;refine (rsum_any _ 512 512 (blockA (own1 h p s)) w8 (by omega) hb8).mono ?_
             rintro e w8' ⟨rfl,rfl⟩;rw [← hS] at hSL ⊢;have HSS:=Lib.hid hS;have HO1:=Lib.hid (own1_fits HSP.out.1 HSP.out.2.1 HLL.out HNO.out);clear hS hb8 hr8 hw8 hfin hFE hoE c7 e156 f156
             go_wp2_with fail
             refine (rput_s (S:Int) 7 w8 (WalkArith.wf_i64 (by omega)) (by decide)).mono ?_
             rintro e w9 ⟨v,y,rfl,hp,hk9⟩;rcases hp with ⟨l,sp,sc,hl,rfl,rfl,hlc,hsrc⟩ | ⟨hl,_,_⟩
             ·rw [putF_sum (by omega)] at hl
              have hl:=Option.some.inj hl;have hl7:l.length=7:=by rw [← hl];simp [putD_length]
              have HR9:=Lib.hid (HR8.out.kept hk9 id);have HK9:Hid (Kept (oneB g) wr w9):=Lib.hid (HK8.out.trans (hk9.of_none _));have HSRC:Hid (BAt w9 sp (bytesOf l).length (bytesOf l)):=Lib.hid (by rw [bytesOf_length];exact hsrc)
              have HMN:Hid ((bytesOf l).length=Nat.min 7 364):=Lib.hid (by rw [bytesOf_length,hl7];rfl)
              have HFIT:Hid (148+(bytesOf l).length≤(blockA (own1 h p s)).length):=Lib.hid (by rw [bytesOf_length,blockA_length,hl7];omega)
              have HB7:Hid ((bytesOf l).length=7):=Lib.hid (by rw [bytesOf_length,hl7])
              have HSB:Hid (bytesOf l++[32]=sumB S):=Lib.hid (by rw [sumB,hl])
              rw [hl7];rw [hl7] at hlc;clear hl hl7 hsrc hk9
              go_wp2_with (first | (refine wpList_copyB rfl _ _ 24 24 rfl 5 Tryz.underlying24 infoSz (some ⟨g,148,none⟩) sp 364 364 7 sc rfl rfl g 148 (blockA (own1 h p s)) HR9.out (bytesOf l) HMN.out (fun _ => rfl) HSRC.out HFIT.out ?_;intro w10 hr10 hk10 hs10;have HR10:=Lib.hid hr10.out;have HK10:Hid (Kept (oneB g) wr w10):=Lib.hid (HK9.out.trans hk10);have e155:=HR10.out.cell 155 (by rw [length_splice _ _ _ HFIT.out,blockA_length];omega);have f155:=HR10.out.frozen 155;clear hr10 hk10 hs10) | fail)
              have hset:(splice (blockA (own1 h p s)) 148 (bytesOf l)).set 155 32=blockA (own2 h p s):=by
               have h1:=splice_snoc (blockA (own1 h p s)) (bytesOf l) 148 32 (by rw [HB7.out,blockA_length];omega)
               rw [HB7.out,HSB.out] at h1;have h2:splice (blockA (own1 h p s)) 148 (sumB S)=_:=splice_blockA HO1.out (i:=6) (by omega) (by rw [sumB_length];exact Nat.le_refl _)
               rw [putInto_all (by rw [sumB_length,(own1_field h p s).2.1];rfl),HSS.out] at h2
               rw [HSS.out] at h1;exact h1.trans h2
              have hr11:=HR10.out.set 155 32;rw [hset] at hr11
              go_ret2
              exact ⟨HKR.out.then (HK10.out.setCell (a:=⟨g,155,none⟩) (Or.inr (show oneB g g from rfl)) _) (fun i hi => Or.inl (by
               have h1:i=g:=hi;rw [h1]
               exact HGE.out)),Or.inl ⟨_,g,HPR.out,rfl,hr11,HGE.out⟩⟩
             ·exfalso
              rw [putF_sum (by omega)] at hl
              cases hl
end Go.Proofs.YtnpkcneojilmkaaGreatDoor.Head
end
