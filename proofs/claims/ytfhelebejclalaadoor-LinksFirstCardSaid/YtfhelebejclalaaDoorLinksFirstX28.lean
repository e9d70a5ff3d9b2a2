/- Texts of this seat, merged: what the proof reaches. -/
import Derived.Test.YtfhelebejclalaaDoorLinksFirstX14
import Derived.Test.YtfhelebejclalaaDoorLinksFirstX17
import Derived.Test.YtfhelebejclalaaDoorLinksFirstX25
import Derived.Test.YtfhelebejclalaaDoorLinksFirstX26
import Derived.Test.YtfhelebejclalaaDoorLinksFirstX27
import Derived.Shelf.SlIter.Sorted
import Derived.Test.YtfhelebejclalaaDoorLinksFirstX22
import Derived.Test.YtfhelebejclalaaDoorLinksFirstX16
import Derived.Test.YtfhelebejclalaaDoorLinksFirstX23
import Derived.Maps.Own
import Derived.Deep.RegionHeldLaw
import Derived.Test.YtfhelebejclalaaDoorLinksFirstX24
namespace Go.Proofs.YtfhelebejclalaaDoor
namespace Base
end Base
namespace Bk
end Bk
namespace Block
end Block
namespace Byt
end Byt
namespace Lnk
end Lnk
namespace Mem
end Mem
namespace Mk
end Mk
namespace Rec
end Rec
namespace Tre
end Tre
namespace Txt
end Txt
end Go.Proofs.YtfhelebejclalaaDoor
section
namespace Go.Proofs.YtfhelebejclalaaDoor.Tre
open Go.ChangeShapes Go.WideShapes Go.ChangeAt Go.RowKit Base Byt Txt Bk Mk Mem Go.Lib
set_option linter.unusedVariables false
set_option maxRecDepth 100000
def natK:Keying Nat where
 enc n:=.int .i64 (n:Int)
 kind:=.int .i64
 isKey _:=rfl
 inj a b h:=by injection h with _ h;omega
 same a:=by simp [Instr.sameBits]
def SAt (w:World) (p:Option Addr) (n:Nat) (ts:List (List UInt8)):Prop:=
 0 < n → ∃ b o,p=some ⟨b,o,none⟩∧b < w.heap.size ∧ ∀ i,i < n → w.cell? ⟨b,o+i,none⟩=some (.string (str (ts.getD i [])))
theorem SAt.keptS {w w':World} {S:Nat → Prop} {p:Option Addr} {n:Nat} {ts:List (List UInt8)} (h:SAt w p n ts) (hk:Kept S w w') (hn:∀ k,k < w.heap.size → ¬ S k):SAt w' p n ts:=fun h0 => by
 obtain ⟨b,o,rfl,hb,hc⟩:=h h0;exact ⟨b,o,rfl,Nat.lt_of_lt_of_le hb hk.size,fun i hi => by rw [World.cell?_of_block (hk.block b hb (hn b hb))];exact hc i hi⟩
def numsN (f:Nat → Option Nat):Nat → Option Value:=fun x => (f x).map fun n => .int .i64 (n:Int)
structure TI (w w4 wr:World) (gt bl g B:Nat) (p:Option Addr) (n c:Nat) (ms:List MemV) (S T:St) (k:Nat) (zs:List NP):Prop where
 bel:Below w.heap.size w wr
 kp:Kept (twoB gt (some bl)) w4 wr
 lay:LayAt wr g B p n c (look S)
 row:Rw wr gt zs
 len:zs.length=T.length
 map:MapK natK wr bl (numsN (leads ms T k))
 done:∀ j,j < k → (zs.getD j zeroQ).m=nodeD ms T (T.getD j ([],0))
 rest:∀ j,k≤j → zs.getD j zeroQ=zeroQ
 bods:∀ x ∈ zs,BodAt wr x ∧ ∀ a,x.p=some a → w4.heap.size≤a.block
theorem TI.step {w w4 wr W':World} {gt bl g B:Nat} {p:Option Addr} {n c:Nat} {ms:List MemV} {S T:St} {k:Nat} {zs:List NP} (hI:TI w w4 wr gt bl g B p n c ms S T k zs) (hk:k < T.length) (hkp:Kept (twoB gt (some bl)) wr W') (hb:Below w.heap.size w W')
 (hw:w.heap.size≤gt∧w.heap.size≤bl∧gt < w4.heap.size∧bl < w4.heap.size) (hlt:g < w.heap.size∧B < w.heap.size) {y:NP} (hrow:Rw W' gt (zs.set k y)) (hmap:MapK natK W' bl (numsN (leads ms T (k+1)))) (hy:y.m=nodeD ms T (T.getD k ([],0))) (hby:BodAt W' y) (hya:∀ a,y.p=some a → w4.heap.size≤a.block) :
 TI w w4 W' gt bl g B p n c ms S T (k+1) (zs.set k y):=by
 have hkz:k < zs.length:=by rw [hI.len];exact hk
 have off:∀ b,b < w.heap.size → ¬ twoB gt (some bl) b:=fun b hb h => by
  rcases h with h | h
  ·omega
  ·cases h;omega
 refine ⟨hb,hI.kp.trans hkp,⟨hI.lay.obj.keptS hkp (off g hlt.1),hI.lay.map.kept hkp (off B hlt.2)⟩,hrow,by rw [List.length_set];exact hI.len,hmap,fun j hj => ?_,fun j hj => ?_,fun x hx => ?_⟩
 ·rw [getSet zs k j y hkz]
  by_cases h:j=k
  ·rw [if_pos h,h];exact hy
  ·rw [if_neg h];exact hI.done j (by omega)
 ·rw [getSet zs k j y hkz,if_neg (by omega)]
  exact hI.rest j (by omega)
 ·rcases List.mem_or_eq_of_mem_set hx with hx | rfl
  ·obtain ⟨h1,h2⟩:=hI.bods x hx
   refine ⟨h1.kept hkp (fun _ a ha h => ?_),h2⟩
   have:=h2 a ha;rcases h with h | h
   ·omega
   ·injection h with h;omega
  ·exact ⟨hby,hya⟩
end Go.Proofs.YtfhelebejclalaaDoor.Tre
end
section
namespace Go.Proofs.YtfhelebejclalaaDoor.Lnk
open Go.ChangeShapes Go.WideShapes Go.ChangeAt Go.RowKit Base Byt Txt Bk Mk Mem Tre Go.Lib
set_option linter.unusedVariables false
set_option maxRecDepth 100000
theorem rm_made {w':World} {B g n:Nat} (h:w'.ownsRow B 50 8 (.slice (some ⟨g,0,none⟩) n n) n (madeCells #[.string ⟨#[]⟩,.string ⟨#[]⟩,.int .u8 0,.int .i64 0,.int .i64 0,.int .i64 0,.int .i64 0,.slice none 0 0] (n * 8)).toList):Rm w' g (List.replicate n zeroP):=by
 rcases h.2 with ⟨h1,_⟩ | ⟨g',cap,cur,h1,_,hg,h2,h3,h4,h5⟩
 ·cases h1
 ·cases h1
  refine ⟨cur,hg,by rw [List.length_replicate];omega,fun i hi j hj => ?_⟩
  rw [List.length_replicate] at hi
  have e:(List.replicate n zeroP).getD i zeroP=zeroP:=by
   rw [List.getD,List.getElem?_replicate,if_pos hi];rfl
  have h6:cur.toList[8 * i+j]? = (madeCells #[Value.string ⟨#[]⟩,.string ⟨#[]⟩,.int .u8 0,.int .i64 0,.int .i64 0,.int .i64 0,.int .i64 0,.slice none 0 0] (n * 8)).toList[8 * i+j]?:=by
   rw [← h5,List.getElem?_take,if_pos (by omega)]
  rw [e,← Array.getElem?_toList,h6,Array.getElem?_toList];unfold madeCells;rw [Array.getElem?_map,Array.getElem?_range,if_pos (by omega)]
  simp only [Option.map_some];rw [show (8 * i+j) % (#[Value.string ⟨#[]⟩,.string ⟨#[]⟩,.int .u8 0,.int .i64 0,.int .i64 0,.int .i64 0,.int .i64 0,.slice none 0 0]:Array Value).size=j by show (8 * i+j) % 8=j;omega]
  match j,hj with
  | 0,_ => rfl
  | 1,_ => rfl
  | 2,_ => rfl
  | 3,_ => rfl
  | 4,_ => rfl
  | 5,_ => rfl
  | 6,_ => rfl
  | 7,_ => rfl
theorem rm_cell {W:World} {g:Nat} {ys:List MP} (h:Rm W g ys) {k j:Nat} (hk:k < ys.length) (hj:j < 8) (u:Value) (y:MP) (hy:∀ i,i < 8 → y.cs[i]? = if i=j then some u else (ys.getD k zeroP).cs[i]?):Rm (W.setCell ⟨g,k * 8+j,none⟩ u) g (ys.set k y):=by
 obtain ⟨cur,hb,hs,hc⟩:=h;refine ⟨cur.setIfInBounds (k * 8+j) u,blk_setIf hb _ u,by rw [List.length_set];simpa using hs,fun i hi l hl => ?_⟩
 rw [List.length_set] at hi;rw [getSetP ys k i y hk,Array.getElem?_setIfInBounds]
 by_cases hik:i=k
 ·subst hik
  rw [if_pos rfl,hy l hl]
  by_cases hlj:l=j
  ·subst hlj
   rw [if_pos (by omega),if_pos (by omega),if_pos rfl]
  ·rw [if_neg (by omega),if_neg hlj,hc i hi l hl]
 ·rw [if_neg hik,if_neg (by omega),hc i hi l hl]
theorem rm_hard {W:World} {g:Nat} {ys:List MP} {k:Nat} {m:MemV} {p:Option Addr} {c:Nat} (h:Rm W g (ys.set k ⟨m,p,c⟩)) (hk:k < ys.length) (l:List UInt8) :
 Rm ((W.setCell ⟨g,k * 8+2,none⟩ (.int .u8 49)).setCell ⟨g,k * 8+1,none⟩ (.string (str l))) g (ys.set k ⟨{ m with kind:=49,target:=l },p,c⟩):=by
 have hk1:k < (ys.set k ⟨m,p,c⟩).length:=by rw [List.length_set];exact hk
 have h1:=rm_cell h hk1 (j:=2) (by omega) (.int .u8 49) ⟨{ m with kind:=49 },p,c⟩ (fun i hi => by
  rw [getSetP ys k k _ hk,if_pos rfl]
  match i,hi with
  | 0,_ => rfl
  | 1,_ => rfl
  | 2,_ => rfl
  | 3,_ => rfl
  | 4,_ => rfl
  | 5,_ => rfl
  | 6,_ => rfl
  | 7,_ => rfl)
 rw [List.set_set] at h1
 have h2:=rm_cell h1 (k:=k) (j:=1) (by rw [List.length_set];exact hk) (by omega) (.string (str l)) ⟨{ m with kind:=49,target:=l },p,c⟩ (fun i hi => by
  rw [getSetP ys k k _ hk,if_pos rfl]
  match i,hi with
  | 0,_ => rfl
  | 1,_ => rfl
  | 2,_ => rfl
  | 3,_ => rfl
  | 4,_ => rfl
  | 5,_ => rfl
  | 6,_ => rfl
  | 7,_ => rfl)
 rw [List.set_set] at h2;exact h2
theorem rm_bytes {W:World} {g:Nat} {ys:List MP} {k:Nat} {m:MemV} {p:Option Addr} {c:Nat} (h:Rm W g (ys.set k ⟨m,p,c⟩)) (hk:k < ys.length) (b:List UInt8) (q:Option Addr) (d:Nat) :
 Rm (W.setCell ⟨g,k * 8+7,none⟩ (.slice q b.length d)) g (ys.set k ⟨{ m with body:=b },q,d⟩):=by
 have hk1:k < (ys.set k ⟨m,p,c⟩).length:=by rw [List.length_set];exact hk
 have h1:=rm_cell h hk1 (j:=7) (by omega) (.slice q b.length d) ⟨{ m with body:=b },q,d⟩ (fun i hi => by
  rw [getSetP ys k k _ hk,if_pos rfl]
  match i,hi with
  | 0,_ => rfl
  | 1,_ => rfl
  | 2,_ => rfl
  | 3,_ => rfl
  | 4,_ => rfl
  | 5,_ => rfl
  | 6,_ => rfl
  | 7,_ => rfl)
 rw [List.set_set] at h1;exact h1
theorem bodyZ (w:World) (m:MemV) (h:m.body=[]):BodyAt w ⟨m,none,0⟩:=by
 refine ⟨?_,?_,Nat.zero_le _⟩
 ·show BAt w none m.body.length m.body
  rw [h];exact BAt.none_ w none
 ·show m.body.length≤0
  rw [h];exact Nat.le_refl _
structure MbsI (w w2 w4 wr:World) (M g:Nat) (t:List NodeV) (os:List (List UInt8)) (n k:Nat) (ys:List MP):Prop where
 bel:Below w2.heap.size w2 wr
 kp:w4.heap.size≤wr.heap.size
 map:MapK strK wr M (numsK (firstP t os k))
 row:Rm wr g ys
 len:ys.length=n
 done:∀ i,i < k → (ys.getD i zeroP).m=memAt t os i
 bods:∀ y ∈ ys,BodyAt wr y ∧ ∀ a,y.p=some a → w4.heap.size≤a.block
section
variable {w w2 w4 wr W':World} {M g n k:Nat} {t:List NodeV} {os:List (List UInt8)} {ys:List MP}
theorem MbsI.step (h:MbsI w w2 w4 wr M g t os n k ys) (hk:k < n) (hkp:Kept (twoB g (some M)) wr W') (hg:w2.heap.size≤g∧g < w4.heap.size∧w2.heap.size≤M∧M < w4.heap.size)
 {y:MP} (hrow:Rm W' g (ys.set k y)) (hmap:MapK strK W' M (numsK (firstP t os (k+1)))) (hy:y.m=memAt t os k) (hby:BodyAt W' y) (hya:∀ a,y.p=some a → w4.heap.size≤a.block) :
 MbsI w w2 w4 W' M g t os n (k+1) (ys.set k y):=by
 have hkz:k < ys.length:=by rw [h.len];exact hk
 refine ⟨h.bel.trans (hkp.below h.bel.size (fun b hb => ?_)),Nat.le_trans h.kp hkp.size,hmap,hrow,by rw [List.length_set];exact h.len,fun j hj => ?_,fun x hx => ?_⟩
 ·rcases hb with hb | hb
  ·rw [hb];exact hg.1
  ·injection hb with hb;rw [hb];exact hg.2.2.1
 ·rw [getSetP ys k j y hkz]
  by_cases h1:j=k
  ·rw [if_pos h1,h1];exact hy
  ·rw [if_neg h1];exact h.done j (by omega)
 ·rcases List.mem_or_eq_of_mem_set hx with hx | rfl
  ·obtain ⟨h1,h2⟩:=h.bods x hx
   refine ⟨h1.kept hkp (fun _ a ha e => ?_),h2⟩
   have:=h2 a ha;rcases e with e | e
   ·omega
   ·injection e with e;omega
  ·exact ⟨hby,hya⟩
end
theorem lm_yes {t:List NodeV} {os:List (List UInt8)} (hg:goodT t=true) (ho:OrderOf t os):lmD t os=(linksD t os,0):=by
 unfold lmD;rw [if_pos ((orderB_iff hg os).2 ho)]
theorem lm_no {t:List NodeV} {os:List (List UInt8)} (hg:goodT t=true) (ho:¬ OrderOf t os):lmD t os=([],1):=by
 unfold lmD;rw [if_neg (fun h => ho ((orderB_iff hg os).1 h))]
set_option maxHeartbeats 16000000 in
theorem lmembers_any (w:World) (p:Option Addr) (n c:Nat) (xs:List NP) (a:Option Addr) (m d:Nat) (os:List (List UInt8)) (hN:NodesOk w p n c xs) (hO:OrderOk w a m d os) :
 Calls Tryd.prog 12 #[.slice p n c,.slice a m d] w (LMemPost w (lmD (xs.map NP.m) os)):=by
 obtain ⟨i0,hi,hz0,hz1,hz2⟩:=info_parts infoMem;have HI:=Lib.hid hi;have HZ0:=Lib.hid hz0;have HZ1:=Lib.hid hz1;have HZ2:=Lib.hid hz2;have hmm:=@run_makeMap Tryd.prog;have HIO:=Lib.hid (inOrder_any w p n c xs a m d os hN hO);have hfew:=hN.few;have HG:=Lib.hid hN.good;have HO:=Lib.hid hO.at_;have HRB:=Lib.hid hN.room;have HXA:=Lib.hid hN.at_.2.1;obtain ⟨t,ht⟩:∃ t,xs.map NP.m=t:=⟨_,rfl⟩;have HT:=Lib.hid ht;unfold InOPost at HIO;rw [ht] at HIO HG ⊢;clear hi hz0 hz1 hz2 hN hO ht
 go_enter Tryd.func12,Tryd.ntmps12
 go_wp2_with fail
 refine HIO.out.mono ?_
 rintro e w2 (⟨q,zs,rfl,htk,hzl,hol,hnod,hord,hb2⟩ | ⟨rfl,hno,hb2⟩)
 ·have HTK:=Lib.hid htk
  have HZL:=Lib.hid hzl;have HOL:=Lib.hid hol;have HND:=Lib.hid hnod;have HORD:=Lib.hid hord;have HB2:=Lib.hid hb2;clear htk hzl hol hnod hord hb2 HIO
  go_wp2_with (at_make;refine wpList_make_full _ rfl _ _ 28 rfl w2.heap.size 50 i0 _ 8 Tryd.underlying28 HI.out HZ0.out HZ1.out .i64 .i64 _ _ n rfl rfl rfl rfl (by rw [HZ2.out];omega) (by unfold maxLen;omega) (Nat.le_refl _) ?_)
  intro w3 hmade hgrow;have hrw:Rm w3 w2.heap.size (List.replicate n zeroP):=rm_made (B:=w2.heap.size) hmade;have hk3:Kept noneB w2 w3:=(Kept.refl noneB w2).grown hgrow (fun k h => by cases h)
  have hb3:Below w2.heap.size w2 w3:=hk3.below (Nat.le_refl _) (fun _ h => h.elim)
  have hlt3:w2.heap.size < w3.heap.size:=by
   obtain ⟨cur,hc,_⟩:=hrw;exact hc.lt
  obtain ⟨w4,hw4⟩:∃ w4,w3.alloc (.map #[] 0)=w4:=⟨_,rfl⟩;have hb4:Below w3.heap.size w3 w4:=by rw [← hw4];exact (Below.refl _ _).alloc (Nat.le_refl _) _
  have hmp:MapK strK w4 w3.heap.size (fun _ => none):=by rw [← hw4];exact mapK_made strK w3
  have hsz4:w4.heap.size=w3.heap.size+1:=by rw [← hw4];simp
  have HMB:Hid (MbsI w w2 w4 w4 w3.heap.size w2.heap.size t os n 0 (List.replicate n zeroP)):=Lib.hid
   { bel:=hb3.trans (hb4.mono hb3.size)
     kp:=Nat.le_refl _
     map:=by
      have e:numsK (firstP t os 0)=fun _ => none:=by funext l;rfl
      rw [e];exact hmp
     row:=rm_below hrw hb4
     len:=by simp
     done:=fun i hi => by omega
     bods:=fun y hy => by
      rw [(List.mem_replicate.1 hy).2]
      exact ⟨bodyZ _ zeroM rfl,fun a h => by cases h⟩ }
  have HSZ:Hid (w2.heap.size≤w2.heap.size∧w2.heap.size < w4.heap.size∧w2.heap.size≤w3.heap.size∧w3.heap.size < w4.heap.size):=Lib.hid ⟨Nat.le_refl _,by omega,by omega,by omega⟩
  obtain ⟨M,hM⟩:∃ M,w3.heap.size=M:=⟨_,rfl⟩;rw [hM] at HMB HSZ;clear hmade hgrow hrw hk3 hb3 hb4 hmp hsz4 hlt3
  go_upto_region 6 with fail
  clear hw4 hmm hM
  go_wp2_with fail
  go_loopw [10,11,12,13,28] (fun _ _ _ _ i wr => ∃ (k:Nat) (ys:List MP),k≤n∧i=.int .i64 (k:Int)∧Hid (MbsI w w2 w4 wr M w2.heap.size t os n k ys)) (fun _ _ _ _ i _ => n - (RowKit.intOf i).toNat)
  case atStart => exact ⟨0,_,Nat.zero_le _,rfl,HMB⟩
  case round =>
   obtain ⟨k,ys,hk,rfl,hI⟩:=hrel
   by_cases hlt:k < n
   ·have hkz:k < ys.length:=by rw [hI.out.len];exact hlt
    obtain ⟨b1,o1,rfl,hb1,hBd,hc⟩:=(HND.out.below hI.out.bel).cells9 hlt;have hfind:=took_find HTK.out hlt;obtain ⟨v,hv⟩:∃ v,zs.getD k zeroQ=v:=⟨_,rfl⟩;rw [hv] at hBd hc hfind;have hin:v ∈ xs:=List.mem_of_find?_eq_some hfind
    have hnd:nodeAt t (os.getD k [])=v.m:=by
     unfold nodeAt;rw [← HT.out,← findP_map,hfind];rfl
    have hgd:=node_good HG.out (x:=v.m) (by rw [← HT.out];exact List.mem_map.2 ⟨v,hin,rfl⟩)
    have hrm:=HRB.out v hin;have HXB:=Lib.hid (HXA.out v hin);obtain ⟨c0,c1,c2,c3,c4,c5,c6,c7,c8⟩:=hc;obtain ⟨W5,hW5⟩:∃ W5,wr.alloc (.cells v.cs 45)=W5:=⟨_,rfl⟩;have hB5:Below wr.heap.size wr W5:=by rw [← hW5];exact (Below.refl _ _).alloc (Nat.le_refl _) _
    have hBN:Blk W5 wr.heap.size 45 v.cs:=by rw [← hW5];exact Blk.new wr _ _
    have hM5:=hI.out.map.kept (Kept.of_below hB5 noneB) (fun h => h.elim)
    have hR5:=rm_below hI.out.row hB5;have hgw:w2.heap.size < wr.heap.size:=by have h1:=HSZ.out.2.1;have h2:=hI.out.kp;omega
    have HGW:=Lib.hid hgw;unfold NP.cs nodC at hW5;have ek:=kind_nq1 v.m.kind 48 48 rfl;obtain ⟨kn,hkn⟩:∃ kn:Int,(v.m.kind.toNat:Int)=kn:=⟨_,rfl⟩;have HKN:=Lib.hid hkn;have z0:=hBN.cell 0;have z1:=hBN.cell 1;have z3:=hBN.cell 3;have z4:=hBN.cell 4;have z5:=hBN.cell 5;have z6:=hBN.cell 6;have z7:=hBN.cell 7;simp only [NP.cs,nodC,List.getElem?_toArray,List.getElem?_cons_zero,List.getElem?_cons_succ] at z0 z1 z3 z4 z5 z6 z7;rw [hkn] at hW5 c3 z3 ek;obtain ⟨r0,r1,r2,r3,r4,r5,r6,r7⟩:=hR5.cells8 hkz
    have hfz:∀ i,W5.frozen? ⟨w2.heap.size,i,none⟩=false:=fun i => by
     obtain ⟨cur,hc,_⟩:=hR5;exact hc.frozen i
    have f0:=hfz (k * 8);have f1:=hfz (k * 8+1);have f2:=hfz (k * 8+2);have f3:=hfz (k * 8+3);have f4:=hfz (k * 8+4);have f5:=hfz (k * 8+5);have f6:=hfz (k * 8+6);have f7:=hfz (k * 8+7);have HB5:=Lib.hid hB5;have HBN:=Lib.hid hBN;have HM5:=Lib.hid hM5;have HR5:=Lib.hid hR5;have HNA:=Lib.hid hnd;have HGD:=Lib.hid hgd;have HRM:=Lib.hid hrm;have HBD:=Lib.hid hBd;have HKZ:=Lib.hid hkz;have hltz:(k:Int) < (n:Int):=by omega
    clear hkz hb1 hBd hfind hv hin hnd hgd hrm hB5 hBN hM5 hR5 hgw hkn hfz
    go_upto_region 9 with fail
    clear hW5 c0 c1 c2 c3 c4 c5 c6 c7 c8
    go_upto_region 10 with fail
    obtain ⟨W6,hW6⟩:∃ W6,((((((((W5.setCell ⟨w2.heap.size,k * 8,none⟩ (.string (str v.m.path))).setCell ⟨w2.heap.size,k * 8+1,none⟩ (.string (str v.m.target))).setCell ⟨w2.heap.size,k * 8+2,none⟩ (.int .u8 kn)).setCell ⟨w2.heap.size,k * 8+3,none⟩ (.int .i64 v.m.mode)).setCell ⟨w2.heap.size,k * 8+4,none⟩ (.int .i64 v.m.uid)).setCell ⟨w2.heap.size,k * 8+5,none⟩ (.int .i64 v.m.gid)).setCell ⟨w2.heap.size,k * 8+6,none⟩ (.int .i64 v.m.time)).setCell ⟨w2.heap.size,k * 8+7,none⟩ (.slice none 0 0))=W6:=⟨_,rfl⟩;obtain ⟨mv,hmv⟩:∃ mv:MemV,(⟨v.m.path,v.m.target,v.m.kind,v.m.mode,v.m.uid,v.m.gid,v.m.time,[]⟩:MemV)=mv:=⟨_,rfl⟩
    have hp6:put8 W5 w2.heap.size (k * 8) ⟨mv,none,0⟩=W6:=by
     rw [← hW6,← hmv,← HKN.out];rfl
    have hr6:Rm W6 w2.heap.size (ys.set k ⟨mv,none,0⟩):=by rw [← hp6];exact HR5.out.set HKZ.out ⟨mv,none,0⟩
    have hk56:Kept (oneB w2.heap.size) W5 W6:=by rw [← hp6];exact put8_kept (S:=oneB w2.heap.size) rfl _
    have hgM:w2.heap.size≠M:=by
     obtain ⟨cur,hc,_⟩:=HR5.out;exact blk_not_map hc HM5.out
    have hk6:Kept (twoB w2.heap.size (some M)) wr W6:=(Kept.of_below HB5.out _).trans (hk56.mono (fun b h => .inl h))
    have hn6:Blk W6 wr.heap.size 45 v.cs:=HBN.out.keptS hk56 (fun e => by have h1:=HGW.out;have h2:wr.heap.size=w2.heap.size:=e;omega)
    have hm6:MapK strK W6 M (numsK (firstP t os k)):=HM5.out.kept hk56 (fun e => hgM (show M=w2.heap.size from e).symm)
    have HMV:=Lib.hid hmv;have HR6:=Lib.hid hr6;have HK6:=Lib.hid hk6;have HN6:=Lib.hid hn6;have HM6:=Lib.hid hm6;have HGM:=Lib.hid hgM;have y2:W6.cell? ⟨wr.heap.size,2,none⟩=some (.string (str v.m.leader)):=hn6.cell 2;have y3:W6.cell? ⟨wr.heap.size,3,none⟩=some (.int .u8 kn):=by rw [← HKN.out];exact hn6.cell 3
    rw [hW6];clear hW6 hp6 hr6 hk56 hk6 hn6 hm6 hgM hmv r0 r1 r2 r3 r4 r5 r6 r7 f0 f1 f2 f3 f4 f5 f6 f7 z0 z1 z3 z4 z5 z6 z7;have hBZ:mv.body=[]:=by rw [← HMV.out]
    have HBZ:=Lib.hid hBZ;clear hBZ
    by_cases h48:v.m.kind=48
    ·rw [decide_eq_true h48,Bool.not_true] at ek
     have H48:Hid ((nodeAt t (os.getD k [])).kind=48):=Lib.hid (by rw [HNA.out];exact h48)
     have lk:=HM6.out.look_ok (P:=Tryd.prog) Tryd.underlying57 Tryd.underlying9 (z:=.int .i64 0) (fun w => Tryd.zeroValue3 w) v.m.leader
     obtain ⟨fo,hfo⟩:∃ fo,firstP t os k v.m.leader=fo:=⟨_,rfl⟩;have HFO:Hid (firstP t os k (nodeAt t (os.getD k [])).leader=fo):=Lib.hid (by rw [HNA.out];exact hfo)
     unfold numsK at lk;rw [hfo] at lk;clear h48 hfo
     cases fo with
     | some f =>
       have lk2:(Instr.lookup 57 (.map (some M)) (.string (str v.m.leader)) true).run Tryd.prog W6=.ok (.tuple #[.int .i64 (f:Int),.bool true]) W6:=lk;have hfk:f < k:=first_lt HFO.out;have hmn:m=n:=by rw [← HO.out.1,HOL.out]
       have hb26:Below w2.heap.size w2 W6:=hI.out.bel.trans (HK6.out.below hI.out.bel.size (fun b hb => by
        rcases hb with hb | hb
        ·rw [hb];exact Nat.le_refl _
        ·injection hb with hb;rw [hb];exact HSZ.out.2.2.1))
       obtain ⟨b3,o3,rfl,hb3,hc3⟩:=((HO.out.below HB2.out).below hb26).2 (by omega)
       have q0:=hc3 f (by omega)
       obtain ⟨s,hs⟩:∃ s,os.getD f []=s:=⟨_,rfl⟩;rw [hs] at q0;have HS:=Lib.hid hs;have hkz2:k < (ys.set k ⟨mv,none,0⟩).length:=by rw [List.length_set];exact HKZ.out
       obtain ⟨r0,r1,r2,r3,r4,r5,r6,r7⟩:=HR6.out.cells8 hkz2
       have hfz:∀ i,W6.frozen? ⟨w2.heap.size,i,none⟩=false:=fun i => by
        obtain ⟨cur,hc,_⟩:=HR6.out;exact hc.frozen i
       have f1:=hfz (k * 8+1);have f2:=hfz (k * 8+2);have hfz0:(0:Int)≤(f:Int):=by omega
       have hfz1:(f:Int) < (m:Int):=by omega
       clear lk hfk hmn hb26 hb3 hc3 hs hkz2 hfz r0 r3 r4 r5 r6 r7
       go_upto_region 16 with fail
       obtain ⟨W7,hW7⟩:∃ W7,(W6.setCell ⟨w2.heap.size,k * 8+2,none⟩ (.int .u8 49)).setCell ⟨w2.heap.size,k * 8+1,none⟩ (.string (str s))=W7:=⟨_,rfl⟩;have hr7:Rm W7 w2.heap.size (ys.set k ⟨{ mv with kind:=49,target:=s },none,0⟩):=by rw [← hW7];exact rm_hard HR6.out HKZ.out s
       have hk7:Kept (oneB w2.heap.size) W6 W7:=by rw [← hW7];exact ((Kept.refl (oneB w2.heap.size) W6).setCell (a:=⟨w2.heap.size,k * 8+2,none⟩) (.inr rfl) _).setCell (a:=⟨w2.heap.size,k * 8+1,none⟩) (.inr rfl) _
       have HN:Hid (MbsI w w2 w4 W7 M w2.heap.size t os n (k+1) (ys.set k ⟨{ mv with kind:=49,target:=s },none,0⟩)):=Lib.hid
        (hI.out.step hlt (HK6.out.trans (hk7.mono (fun b h => .inl h))) HSZ.out hr7 (by
         rw [first_old HFO.out]
         exact HM6.out.kept hk7 (fun e => HGM.out (show M=w2.heap.size from e).symm))
         (by rw [mem_old H48.out HFO.out,HNA.out,HS.out,← HMV.out];rfl) (bodyZ _ _ HBZ.out) (fun a h => by cases h))
       rw [hW7];clear hW7 hr7 hk7 r1 r2 f1 f2
       go_wp2
       go_roundw
       case rel => exact ⟨k+1,_,by omega,by go_num,HN⟩
       case measure => simp [RowKit.intOf];omega
     | none =>
       have lk2:(Instr.lookup 57 (.map (some M)) (.string (str v.m.leader)) true).run Tryd.prog W6=.ok (.tuple #[.int .i64 0,.bool false]) W6:=lk;clear lk
       go_wp2_with (at_mapUpdate;refine wpList_putK (K:=strK) rfl (.tmp 68) (.tmp 70) (.tmp 71) rfl Tryd.underlying57 Tryd.underlying9 M HM6.out rfl v.m.leader rfl (.int .i64 (k:Int)) rfl ?_)
       intro w7 hm7 hk7 hs7
       have hmap7:MapK strK w7 M (numsK (firstP t os (k+1))):=by
        have e:numsK (firstP t os (k+1))=fun z => if z=v.m.leader then some (.int .i64 (k:Int)) else numsK (firstP t os k) z:=by
         funext z
         unfold numsK;rw [first_new H48.out HFO.out,HNA.out]
         by_cases h:z=v.m.leader<;>simp [h]
        rw [e];exact hm7.out
       have hkw7:Kept (twoB w2.heap.size (some M)) wr w7:=HK6.out.trans (hk7.out.mono (fun b h => .inr (by rw [show b=M from h])))
       have hb27:Below w2.heap.size w2 w7:=hI.out.bel.trans (hkw7.below hI.out.bel.size (fun b hb => by
        rcases hb with hb | hb
        ·rw [hb];exact Nat.le_refl _
        ·injection hb with hb;rw [hb];exact HSZ.out.2.2.1))
       have hn7:Blk w7 wr.heap.size 45 v.cs:=HN6.out.keptS hk7.out (fun e => by have h1:=HSZ.out.2.2.2;have h2:wr.heap.size=M:=e;have h3:=hI.out.kp;omega)
       have hr7:Rm w7 w2.heap.size (ys.set k ⟨mv,none,0⟩):=by
        obtain ⟨cur,hc,h2,h3⟩:=HR6.out;exact ⟨cur,hc.keptS hk7.out HGM.out,h2,h3⟩
       have hcl:=clone_any v.p v.m.body.length v.c v.m.body w7 ((HXB.out.below HB2.out).below hb27).bat rfl HRM.out.2.2.2;have y8:w7.cell? ⟨wr.heap.size,8,none⟩=some (.slice v.p v.m.body.length v.c):=hn7.cell 8;have HMAP7:=Lib.hid hmap7;have HKW7:=Lib.hid hkw7;have HR7:=Lib.hid hr7;have HCL:=Lib.hid hcl;clear hm7 hk7 hs7 hmap7 hkw7 hb27 hn7 hr7 hcl y2 y3 lk2
       go_wp2_with fail
       refine HCL.out.mono ?_
       rintro e w8 ⟨q8,d8,rfl,hle,hmx,hbt,hnew,hb8⟩;have hr8:=rm_below HR7.out hb8;have hkz2:k < (ys.set k ⟨mv,none,0⟩).length:=by rw [List.length_set];exact HKZ.out
       obtain ⟨r0,r1,r2,r3,r4,r5,r6,r7⟩:=hr8.cells8 hkz2
       have f7:w8.frozen? ⟨w2.heap.size,k * 8+7,none⟩=false:=by
        obtain ⟨cur,hc,_⟩:=hr8;exact hc.frozen _
       have hsz7:=HKW7.out.size
       have hq8:∀ x,q8=some x → w4.heap.size≤x.block:=fun x hx => by
        have h1:=hnew x hx;have h2:=hI.out.kp;omega
       have HN:Hid (MbsI w w2 w4 (w8.setCell ⟨w2.heap.size,k * 8+7,none⟩ (.slice q8 v.m.body.length d8)) M w2.heap.size t os n (k+1) (ys.set k ⟨{ mv with body:=v.m.body },q8,d8⟩)):=by
        have hks:Kept (oneB w2.heap.size) w8 (w8.setCell ⟨w2.heap.size,k * 8+7,none⟩ (.slice q8 v.m.body.length d8)):=(Kept.refl (oneB w2.heap.size) w8).setCell (a:=⟨w2.heap.size,k * 8+7,none⟩) (.inr rfl) _
        refine Lib.hid (hI.out.step hlt ((HKW7.out.trans (Kept.of_below hb8 _)).trans (hks.mono (fun b h => .inl h))) HSZ.out (rm_bytes hr8 HKZ.out v.m.body q8 d8)
         ((HMAP7.out.kept (Kept.of_below hb8 noneB) (fun h => h.elim)).kept hks (fun e => HGM.out (show M=w2.heap.size from e).symm))
         (by rw [mem_new H48.out HFO.out,HNA.out,← HMV.out];rfl) ⟨hbt.kept hks (fun _ x hx e => ?_),hle,hmx⟩ hq8)
        have h1:=hq8 x hx;have h2:=HSZ.out.2.1;have h3:x.block=w2.heap.size:=e;omega
       clear hle hmx hbt hnew hb8 hr8 hkz2 hsz7 hq8 r0 r1 r2 r3 r4 r5 r6
       go_wp2
       go_roundw
       case rel => exact ⟨k+1,_,by omega,by go_num,HN⟩
       case measure => simp [RowKit.intOf];omega
    ·rw [decide_eq_false h48,Bool.not_false] at ek
     have HN:Hid (MbsI w w2 w4 W6 M w2.heap.size t os n (k+1) (ys.set k ⟨mv,none,0⟩)):=Lib.hid
      (hI.out.step hlt HK6.out HSZ.out HR6.out (by rw [first_other (by rw [HNA.out];exact h48)];exact HM6.out)
       (by
        rw [mem_other (by rw [HNA.out];exact h48),HNA.out,← HMV.out]
        unfold NodeV.mem
        rw [body_other HGD.out.2.1 h48]) (bodyZ _ _ HBZ.out) (fun a h => by cases h))
     clear h48
     go_wp2
     go_roundw
     case rel => exact ⟨k+1,_,by omega,by go_num,HN⟩
     case measure => simp [RowKit.intOf];omega
   ·obtain rfl:k=n:=by omega
    have hks:¬ ((k:Int) < (k:Int)):=by omega
    have F:Hid (LMemPost w (linksD t os,0) (.returned (.tuple #[.slice (some ⟨w2.heap.size,0,none⟩) k k,.int .i64 0])) wr):=Lib.hid (by
     have hl:(linksD t os).length=k:=by rw [linksD_len HORD.out,HOL.out]
     have hm:ys.map MP.m=linksD t os:=by
      apply List.ext_getElem
      ·rw [List.length_map,hI.out.len,hl]
      ·intro i h1 h2
       rw [List.length_map] at h1;have h3:=hI.out.done i (by rw [← hI.out.len];exact h1)
       have h4:=linksD_get HORD.out (show i < os.length by rw [HOL.out,← hI.out.len];exact h1)
       rw [getP_eq h1] at h3;rw [List.getElem_map,h3,← h4,List.getD,List.getElem?_eq_getElem h2];rfl
     have hmm:=hI.out.row.mems (fun y hy => (hI.out.bods y hy).1)
     rw [hI.out.len] at hmm
     refine ⟨some ⟨w2.heap.size,0,none⟩,k,ys,by rw [hl],hm,by rw [hl];exact hmm,by rw [hl];exact Nat.le_refl _,by unfold maxLen;omega,HB2.out.trans (hI.out.bel.mono HB2.out.size)⟩)
    have E:Hid (lmD t os=(linksD t os,0)):=Lib.hid (lm_yes HG.out HORD.out)
    go_wp2
    go_ret2
    rw [E.out];exact F.out
 ·have E:Hid (lmD t os=([],1)):=Lib.hid (lm_no HG.out hno)
  have HB:=Lib.hid hb2;clear hno hb2
  go_wp2
  go_ret2
  unfold LMemPost;rw [E.out];exact ⟨none,0,[],rfl,rfl,mems_nil _ _,Nat.le_refl _,by decide,HB.out⟩
end Go.Proofs.YtfhelebejclalaaDoor.Lnk
end
section
namespace Go.Proofs.YtfhelebejclalaaDoor.Lnk
open Go.ChangeShapes Go.WideShapes Go.ChangeAt Go.RowKit Base Byt Txt Bk Mem Tre Go.Lib
set_option linter.unusedVariables false
theorem linksC:LinksC where
 members w p n c xs a m d os hN hO _:=lmembers_any w p n c xs a m d os hN hO
 sound w p n c xs hN hT:=lsound_any w p n c xs hN hT
 classes w p n c xs hN _:=lclasses_any w p n c xs hN
end Go.Proofs.YtfhelebejclalaaDoor.Lnk
end
section
namespace Go.Proofs.YtfhelebejclalaaDoor.Walk
open Go.ChangeShapes Go.WideShapes Go.ChangeAt Go.RowKit Base Byt Txt Bk Rec Block Mem Tre Lnk Go.Lib
set_option linter.unusedVariables false
theorem linksFirst (a0:Option Addr) (len0 cap0:Nat) (xs0:List NP) (a1:Option Addr) (len1 cap1:Nat) (z1:List Int) (w:World) (ma0:NodesAt w a0 len0 xs0) (lc0:len0≤cap0) (cm0:cap0≤maxLen) (by0:cap0 * 112≤140737488351232) (rm0:∀ x ∈ xs0,WfN x.m∧RoomN x)
 (w1:IsRow .u8 w a1 len1 cap1 z1) (b1:cap1 * 1≤140737488351232) (hT:Path.Tabs w) :
 Calls Tryd.prog 8 #[.slice a0 len0 cap0,.slice a1 len1 cap1] w fun e w' => e=.returned (.bool true)∧Below w.heap.size w w':=linksFirstC linksC a0 len0 cap0 xs0 a1 len1 cap1 z1 w ma0 lc0 cm0 by0 rm0 w1 b1 hT
end Go.Proofs.YtfhelebejclalaaDoor.Walk
end
