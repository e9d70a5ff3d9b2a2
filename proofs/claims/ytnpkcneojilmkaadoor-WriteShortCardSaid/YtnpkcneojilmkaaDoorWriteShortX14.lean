/- Texts of this seat, merged: what the proof reaches. -/
import Derived.Test.YtnpkcneojilmkaaDoorWriteShortX10
import Derived.Test.YtnpkcneojilmkaaDoorWriteShortX13
import Derived.Lib.SliceRun
import Derived.Test.YtnpkcneojilmkaaDoorWriteShortX11
section
namespace Go.Proofs.YtnpkcneojilmkaaDoor.Block
open Go.ChangeShapes Go.WideShapes Go.ChangeAt Go.RowKit Base Byt Num Go.Lib
set_option linter.unusedVariables false
theorem bat_none {w:World} {n:Nat} {bs:List UInt8} (h:BAt w none n bs):n=0:=by
 rcases Nat.eq_zero_or_pos n with h0 | h0
 ·exact h0
 ·obtain ⟨_,_,he,_⟩:=h h0
  cases he
def ClonePost (w:World) (n:Nat) (bs:List UInt8) (e:Ending) (w':World):Prop:=∃ v,e=.returned v∧OwnB w' w.heap.size v n bs∧Kept noneB w w'
theorem clone_any (w:World) (p:Option Addr) (n c:Nat) (bs:List UInt8) (hb:BAt w p n bs) (hl:bs.length=n) (hn:n≤140737488351232) :
 Calls Tryd.prog 34 #[.slice p n c] w (ClonePost w n bs):=by
 obtain ⟨i0,hi,hz0,hz1,hz2⟩:=info_parts infoU8;have q22:∀ (w:World) (a:Option Addr) (n c n' c':Nat),(binOp .eql 24 (.slice a n c) (.slice none n' c')).run Tryd.prog w=.ok (.bool a.isNone) w:=fun w a n c n' c' => Lib.run_eql_slice_nil w _ _ a n c n' c' Tryd.underlying24
 have HI:=Lib.hid hi;have HZ0:=Lib.hid hz0;have HZ1:=Lib.hid hz1;have HZ2:=Lib.hid hz2;have HB:=Lib.hid hb;have HL:=Lib.hid hl;clear hi hz0 hz1 hz2 hb hl;rcases p with _ | x
 ·obtain rfl:=bat_none HB.out
  obtain rfl:bs=[]:=List.eq_nil_of_length_eq_zero HL.out
  go_enter Tryd.func34,Tryd.ntmps34
  go_wp2
  go_ret
  exact ⟨_,rfl,World.ownsRow_nil _ _ _ _,Kept.refl _ _⟩
 ·go_enter Tryd.func34,Tryd.ntmps34
  go_wp2_with (at_builtin;refine append_bytes rfl _ _ 24 rfl w.heap.size 5 i0 Tryd.underlying24 HI.out HZ0.out HZ1.out HZ2.out _ 0 [] rfl (World.ownsRow_made w #[] 0 (Nat.le_refl _) (by decide) rfl) (some x) n c bs rfl (HB.out.alloc _) HL.out ?d2 ?d3 ?_)
  case d2 => omega
  case d3 => simp
  intro v' w1 hown hgrow;have HO:=Lib.hid hown;have hk:Kept noneB w w1:=(((Kept.refl noneB w).alloc _)).grown hgrow (by intro k hk;simp [Value.ownBlock] at hk;omega)
  have HK:=Lib.hid hk;clear hown hgrow hk
  go_wp2
  go_ret
  exact ⟨v',rfl,HO.out,HK.out⟩
def padN (k:Nat):Nat:=(k+511) / 512 * 512
theorem padF_nat (k:Nat) (h:k≤4611686018427387904):padF (k:Int)=(padN k:Int):=by
 unfold padF padN;rw [if_pos ⟨by omega,by omega⟩]
 by_cases h2:((k:Int) % 512=0)
 ·rw [if_pos h2];omega
 ·rw [if_neg h2];omega
theorem padN_ge (k:Nat):k≤padN k:=by unfold padN;omega
theorem padN_le (k:Nat):padN k≤k+511:=by unfold padN;omega
end Go.Proofs.YtnpkcneojilmkaaDoor.Block
end
section
namespace Go.Proofs.YtnpkcneojilmkaaDoor.Block
open Go.ChangeShapes Go.WideShapes Go.ChangeAt Go.RowKit Base Byt Num Go.Lib
set_option linter.unusedVariables false
structure Snk (w:World) (g B:Nat) (v:Value) (bs:List UInt8):Prop where
 blk:w.heap[g]? = some (.cells #[v] 40 (0,0))
 own:OwnB w B v bs.length bs
section
variable {w w':World} {g B:Nat} {v:Value} {bs:List UInt8}
theorem Snk.c0 (h:Snk w g B v bs):w.cell? ⟨g,0,none⟩=some v:=cells_at h.blk 0
theorem Snk.lt (h:Snk w g B v bs):g < w.heap.size:=(Array.getElem?_eq_some_iff.1 h.blk).1
theorem Snk.off (h:Snk w g B v bs):v.ownBlock≠some g:=fun e => by
 rcases h.own.2 with ⟨rfl,_⟩ | ⟨b,cap,cur,rfl,_,hb,_⟩
 ·cases e
 ·simp only [Value.ownBlock,Option.some.injEq] at e
  subst e;rw [h.blk] at hb;have:40=5:=by injection hb with h1;injection h1
  exact absurd this (by decide)
theorem Snk.kept {T:Nat → Prop} (h:Snk w g B v bs) (hk:Kept T w w') (hg:¬ T g) (hv:∀ k,v.ownBlock=some k → ¬ T k):Snk w' g B v bs:=⟨hk.some_ h.blk hg,h.own.kept hk hv⟩
theorem bat_offSnk {p:Option Addr} {n:Nat} {xs:List UInt8} (h:BAt w p n xs) (hs:Snk w g B v bs):0 < n → ∀ x,p=some x → x.block≠g:=fun h0 x hx e => by
 obtain ⟨b,o,hp,hc⟩:=h h0;rw [hp] at hx;cases hx;have h1:=hc 0 h0;change b=g at e;subst e;rw [cells_at hs.blk] at h1
 match o,h1 with
 | 0,h1 =>
   have hv:v=.int .u8 (xs.getD 0 0).toNat:=by simpa using h1
   rcases hs.own.2 with ⟨h2,_⟩ | ⟨b',cap,cur,h2,_⟩
   ·rw [hv] at h2;cases h2
   ·rw [hv] at h2;cases h2
 | o+1,h1 => simp at h1
end
def putB (g:Nat) (v:Value):Nat → Prop:=fun k => k=g ∨ v.ownBlock=some k
def LAt (w:World) (p:Option Addr) (n:Nat) (A:Nat → Option Addr) (M C:Nat → Nat) (Bs:Nat → List UInt8):Prop:=
 0 < n → ∃ b o,p=some ⟨b,o,none⟩∧b < w.heap.size ∧ ∀ i,i < n → w.cell? ⟨b,o+i,none⟩=some (.slice (A i) (M i) (C i))∧BAt w (A i) (M i) (Bs i)∧(Bs i).length=M i
def catB (Bs:Nat → List UInt8):Nat → List UInt8
 | 0 => []
 | k+1 => catB Bs k++Bs k
theorem catB_le (Bs:Nat → List UInt8) (k:Nat):∀ n,k≤n → (catB Bs k).length≤(catB Bs n).length
 | 0,h => by obtain rfl:k=0:=by omega
             exact Nat.le_refl _
 | n+1,h => by
   by_cases hk:k=n+1
   ·subst hk;exact Nat.le_refl _
   ·have:=catB_le Bs k n (by omega)
    rw [catB,List.length_append];omega
structure PutInv (w:World) (g B:Nat) (v:Value) (bs:List UInt8) (Bs:Nat → List UInt8) (k:Nat) (v':Value) (wr:World):Prop where
 snk:Snk wr g B v' (bs++catB Bs k)
 kept:Kept (putB g v) w wr
 new:NewOr w v v'
def PutPost (w:World) (g B:Nat) (v:Value) (bs xs:List UInt8) (e:Ending) (w':World):Prop:=
 ∃ v',e=.returned (.tuple #[])∧Snk w' g B v' (bs++xs)∧Kept (putB g v) w w'∧NewOr w v v'
set_option maxHeartbeats 1600000 in
theorem sput_any (w:World) (g B:Nat) (v:Value) (bs:List UInt8) (h:Snk w g B v bs) (hB:B≤w.heap.size) (lp:Option Addr) (ln lc:Nat) (A:Nat → Option Addr) (M C:Nat → Nat) (Bs:Nat → List UInt8)
 (hl:LAt w lp ln A M C Bs) (hlm:ln≤maxLen) (hoff:0 < ln → ∀ x,lp=some x → x.block≠g∧v.ownBlock≠some x.block) (hoffs:∀ i,i < ln → 0 < M i → ∀ x,A i=some x → v.ownBlock≠some x.block)
 (hsum:(bs++catB Bs ln).length≤140737488351232) :
 Calls Tryd.prog 40 #[.pointer (some ⟨g,0,none⟩),.slice lp ln lc] w (PutPost w g B v bs (catB Bs ln)):=by
 obtain ⟨i0,hi,hz0,hz1,hz2⟩:=info_parts infoU8;unfold maxLen at hlm;have HI:=Lib.hid hi;have HZ0:=Lib.hid hz0;have HZ1:=Lib.hid hz1;have HZ2:=Lib.hid hz2;have H:=Lib.hid h;have HL:=Lib.hid hl;have HOFF:=Lib.hid hoff;have HOFFS:=Lib.hid hoffs;have HS:=Lib.hid hsum;clear hi hz0 hz1 hz2 h hl hoff hoffs hsum
 go_enter Tryd.func40,Tryd.ntmps40
 go_wp2
 go_loopw [10] (fun i wr => ∃ (k:Nat) (v':Value),k≤ln∧i=.int .i64 k∧Hid (PutInv w g B v bs Bs k v' wr)) (fun i _ => ln - (RowKit.intOf i).toNat)
 case atStart => exact ⟨0,v,Nat.zero_le _,rfl,Lib.hid ⟨by rw [catB,List.append_nil];exact H.out,Kept.refl _ _,NewOr.refl _ _⟩⟩
 case round =>
  obtain ⟨k,v',hk,rfl,HR⟩:=hrel
  by_cases hlt:k < ln
  ·obtain ⟨lb,lo,hlp,hlb,hcells⟩:=HL.out (by omega)
   subst hlp;obtain ⟨hcell,hbk,hbl⟩:=hcells k hlt
   have hnb:¬ putB g v lb:=fun hh => by
    have:=HOFF.out (by omega) _ rfl
    rcases hh with hh | hh
    ·exact this.1 hh
    ·exact this.2 hh
   have hcell':=(World.cell?_of_block (a:=⟨lb,lo+k,none⟩) (HR.out.kept.block lb hlb hnb)).trans hcell
   have hb2:BAt wr (A k) (M k) (Bs k):=hbk.kept HR.out.kept (fun h0 x hx hh => by
    rcases hh with hh | hh
    ·exact bat_offSnk hbk H.out h0 x hx hh
    ·exact HOFFS.out k hlt h0 x hx hh)
   have hc0:=HR.out.snk.c0;have hf0:=cells_frozen HR.out.snk.blk 0
   have hsz:(bs++catB Bs k).length+M k≤140737488351232:=by
    have h1:=catB_le Bs (k+1) ln (by omega)
    have h2:=HS.out;rw [List.length_append] at h2 ⊢;rw [catB,List.length_append,hbl] at h1;omega
   have HB2:=Lib.hid hb2;have HBL:=Lib.hid hbl;have HSZ:=Lib.hid hsz;have hbs:B≤wr.heap.size:=Nat.le_trans hB HR.out.kept.size;have HBS:=Lib.hid hbs;clear hcells hbk hbl hnb hcell hb2 hsz hbs
   go_wp2_with (at_builtin;refine append_bytes_new rfl _ _ 24 rfl B 5 i0 Tryd.underlying24 HI.out HZ0.out HZ1.out HZ2.out v' _ _ rfl HR.out.snk.own (A k) (M k) (C k) (Bs k) rfl HB2.out HBL.out HSZ.out HBS.out ?_)
   intro v2 w2 hown2 hgrow2 hnew2;have hk2:Kept (fun x => v'.ownBlock=some x) wr w2:=(Kept.refl _ wr).grown hgrow2 (fun x hx => Or.inr hx)
   have hblk2:w2.heap[g]? = some (.cells #[v'] 40 (0,0)):=hk2.some_ HR.out.snk.blk (fun hh => HR.out.snk.off hh)
   have ho2:OwnB w2 B v2 (bs++catB Bs (k+1)).length (bs++catB Bs (k+1)):=by
    unfold OwnB;have e:bs++catB Bs (k+1)=(bs++catB Bs k)++Bs k:=by rw [catB,List.append_assoc]
    rw [e,List.length_append,List.length_append,HBL.out];unfold nums at hown2 ⊢;rw [List.map_append,List.map_append];exact hown2
   have hoff2:v2.ownBlock≠some g:=fun e => by
    rcases hnew2 g e with h1 | h1
    ·exact HR.out.snk.off h1
    ·have:=HR.out.snk.lt
     omega
   have R2:Hid (PutInv w g B v bs Bs (k+1) v2 (w2.setCell ⟨g,0,none⟩ v2)):=Lib.hid ⟨⟨cells_set hblk2 0 _ (by simp),ho2.kept (T:=oneB g) ((Kept.refl (oneB g) w2).setCell (Or.inr (show oneB g g from rfl)) _) (fun x hx e => hoff2 (by rw [hx];exact congrArg some e))⟩,
    ((HR.out.kept.then hk2 (fun x hx => by
      rcases HR.out.new x hx with h1 | h1
      ·exact Or.inr (Or.inr h1)
      ·exact Or.inl h1)).setCell (Or.inr (Or.inl rfl)) _),HR.out.new.trans hnew2 HR.out.kept.size⟩
   have hf2:=cells_frozen hblk2 0;have hc2:=cells_at hblk2 0;obtain ⟨p2,c2,hv2,_⟩:=ho2.slice;obtain ⟨l2,hl2⟩:∃ l2,l2=(bs++catB Bs (k+1)).length:=⟨_,rfl⟩;rw [← hl2] at hv2;subst hv2;clear hown2 hgrow2 hnew2 hk2 hblk2 ho2 hoff2 hl2
   go_wp2
   go_roundw
   case rel => exact ⟨k+1,_,by omega,by go_num,R2⟩
   case measure => simp [RowKit.intOf];omega
  ·obtain rfl:k=ln:=by omega
   go_wp2
   go_end0
   exact ⟨v',rfl,HR.out.snk,HR.out.kept,HR.out.new⟩
theorem catB_two (x y:List UInt8):catB (fun i => if i=0 then x else y) 2=x++y:=by simp [catB]
theorem catB_one (x:List UInt8):catB (fun _ => x) 1=x:=by simp [catB]
def zerosTo (k:Nat):List UInt8:=List.replicate (padN k - k) 0
set_option maxHeartbeats 800000 in
theorem sbody_any (w:World) (g B:Nat) (v:Value) (bs:List UInt8) (h:Snk w g B v bs) (hB:B≤w.heap.size) (p:Option Addr) (n c:Nat) (xs:List UInt8) (hb:BAt w p n xs) (hl:xs.length=n) (hoff:0 < n → ∀ x,p=some x → v.ownBlock≠some x.block) (hsum:bs.length+padN n≤140737488351232) :
 Calls Tryd.prog 33 #[.pointer (some ⟨g,0,none⟩),.slice p n c] w (PutPost w g B v bs (xs++zerosTo n)):=by
 obtain ⟨i0,hi,hz0,hz1,hz2⟩:=info_parts infoU8;have hp1:=padN_ge n;have hp2:=padN_le n;have HI:=Lib.hid hi;have HZ0:=Lib.hid hz0;have HZ1:=Lib.hid hz1;have HZ2:=Lib.hid hz2;have H:=Lib.hid h;have HB:=Lib.hid hb;have HL:=Lib.hid hl;have HOFF:=Lib.hid hoff;clear hi hz0 hz1 hz2 h hb hl hoff
 go_enter Tryd.func33,Tryd.ntmps33
 go_wp2_with fail
 refine (pad_any n _).mono ?_
 rintro e w1 ⟨rfl,hb1⟩;rw [inB_true (by omega) (by omega),padF_nat n (by omega)]
 obtain ⟨P,hP⟩:∃ P,P=padN n:=⟨_,rfl⟩;rw [← hP] at hp1 hp2 hsum ⊢;have HP:=Lib.hid hP;have HK1:=Lib.hid (Kept.of_below hb1 noneB);clear hP hb1
 go_wp2_with (at_make;refine wpList_make_full _ rfl _ _ 24 rfl w1.heap.size 5 i0 (.int .u8 0) 1 Tryd.underlying24 HI.out HZ0.out HZ1.out .i64 .i64 ((P:Int) - (n:Int)) ((P:Int) - (n:Int)) (P - n) rfl rfl (by omega) (by omega) (by rw [HZ2.out];omega) (by unfold maxLen;omega) (Nat.le_refl _) ?_)
 intro w2 hown hgrow;have HK2:=Lib.hid (HK1.out.trans ((Kept.refl noneB w1).grown hgrow (by intro k hk;cases hk)))
 have ho:OwnB w2 w1.heap.size (.slice (some ⟨w1.heap.size,0,none⟩) (P - n) (P - n)) (P - n) (zerosTo n):=by
  unfold OwnB zerosTo;rw [← HP.out,← made_u8];exact hown
 obtain ⟨_,_,hv,_,_,hbz,hlz,_⟩:=ho.slice
 cases hv
 have HZB:=Lib.hid hbz;have HZL:=Lib.hid hlz;clear hown hgrow ho hbz hlz
 go_wp2_with fail
 refine (sput_any (w2.alloc (.cells #[.slice p n c,.slice (some ⟨w1.heap.size,0,none⟩) (P - n) (P - n)] 24)) g B v bs ?e1 ?e2 _ 2 2 (fun i => if i=0 then p else some ⟨w1.heap.size,0,none⟩) (fun i => if i=0 then n else P - n) (fun i => if i=0 then c else P - n) (fun i => if i=0 then xs else zerosTo n) ?e3 (by decide) ?e4 ?e5 ?e6).mono ?_
 case e1 => exact H.out.kept (HK2.out.alloc _) id (fun _ _ => id)
 case e2 => exact Nat.le_trans hB (HK2.out.alloc _).size
 case e3 =>
  intro _;refine ⟨w2.heap.size,0,rfl,by simp,fun i hi => ?_⟩
  match i,hi with
  | 0,_ => exact ⟨by simp,(HB.out.kept HK2.out (fun _ _ _ => id)).alloc _,HL.out⟩
  | 1,_ => exact ⟨by simp,HZB.out.alloc _,HZL.out⟩
 case e4 =>
  intro _ x hx
  cases hx
  have h1:=H.out.lt;have h2:=HK2.out.size;refine ⟨by show w2.heap.size≠g;omega,fun e => ?_⟩
  have:w2.heap.size < w.heap.size:=(H.out.own.lt _ e).2;omega
 case e5 =>
  intro i hi
  match i,hi with
  | 0,_ => exact HOFF.out
  | 1,_ =>
    intro _ x hx e
    cases hx
    have:w1.heap.size < w.heap.size:=(H.out.own.lt _ e).2;have:=HK1.out.size;omega
 case e6 => rw [catB_two,List.length_append,List.length_append,HL.out,HZL.out];omega
 rintro e w3 ⟨v',rfl,hs3,hk3,hn3⟩;rw [catB_two] at hs3
 have F:Hid (PutPost w g B v bs (xs++zerosTo n) (.returned (.tuple #[])) w3):=Lib.hid ⟨v',rfl,hs3,((HK2.out.of_none _).alloc _).trans hk3,fun k hk => by
  rcases hn3 k hk with h1 | h1
  ·exact Or.inl h1
  ·exact Or.inr (Nat.le_trans (HK2.out.alloc _).size h1)⟩
 clear hs3 hk3 hn3
 go_wp2
 go_end0
 exact F.out
set_option maxHeartbeats 800000 in
theorem end_any (w:World) (g B:Nat) (v:Value) (bs:List UInt8) (h:Snk w g B v bs) (hB:B≤w.heap.size) (hsum:bs.length+1024≤140737488351232) :
 Calls Tryd.prog 27 #[.pointer (some ⟨g,0,none⟩)] w (PutPost w g B v bs (List.replicate 1024 0)):=by
 obtain ⟨i0,hi,hz0,hz1,hz2⟩:=info_parts infoU8;have HI:=Lib.hid hi;have HZ0:=Lib.hid hz0;have HZ1:=Lib.hid hz1;have HZ2:=Lib.hid hz2;have H:=Lib.hid h;clear hi hz0 hz1 hz2 h;obtain ⟨N,hN⟩:∃ N:Nat,N=1024:=⟨_,rfl⟩;have HN:=Lib.hid hN;obtain ⟨Z,hZ⟩:∃ Z:List UInt8,Z=List.replicate 1024 0:=⟨_,rfl⟩;have hZl:Z.length=N:=by rw [hZ,List.length_replicate,hN]
 rw [← hZ];have HZ:=Lib.hid hZ;have HZL:=Lib.hid hZl;clear hN hZ hZl
 go_enter Tryd.func27,Tryd.ntmps27
 go_wp2_with (at_make;refine wpList_make_full _ rfl _ _ 24 rfl w.heap.size 5 i0 (.int .u8 0) 1 Tryd.underlying24 HI.out HZ0.out HZ1.out .i64 .i64 1024 1024 N rfl rfl (by have:=HN.out;omega) (by have:=HN.out;omega) (by rw [HZ2.out];have:=HN.out;omega) (by unfold maxLen;have:=HN.out;omega) (Nat.le_refl _) ?_)
 intro w2 hown hgrow;have HK2:=Lib.hid ((Kept.refl noneB w).grown hgrow (by intro k hk;cases hk))
 have ho:OwnB w2 w.heap.size (.slice (some ⟨w.heap.size,0,none⟩) N N) N Z:=by
  unfold OwnB;rw [HZ.out,← HN.out,← made_u8];exact hown
 obtain ⟨_,_,hv,_,_,hbz,_,_⟩:=ho.slice
 cases hv
 have HZB:=Lib.hid hbz;clear hown hgrow ho hbz
 go_wp2_with fail
 refine (sput_any (w2.alloc (.cells #[.slice (some ⟨w.heap.size,0,none⟩) N N] 24)) g B v bs ?e1 ?e2 _ 1 1 (fun _ => some ⟨w.heap.size,0,none⟩) (fun _ => N) (fun _ => N) (fun _ => Z) ?e3 (by decide) ?e4 ?e5 ?e6).mono ?_
 case e1 => exact H.out.kept (HK2.out.alloc _) id (fun _ _ => id)
 case e2 => exact Nat.le_trans hB (HK2.out.alloc _).size
 case e3 =>
  intro _;refine ⟨w2.heap.size,0,rfl,by simp,fun i hi => ?_⟩
  match i,hi with
  | 0,_ => exact ⟨by simp,HZB.out.alloc _,HZL.out⟩
 case e4 =>
  intro _ x hx
  cases hx
  have h1:=H.out.lt;have h2:=HK2.out.size;refine ⟨by show w2.heap.size≠g;omega,fun e => ?_⟩
  have:w2.heap.size < w.heap.size:=(H.out.own.lt _ e).2;omega
 case e5 =>
  intro i hi _ x hx e
  cases hx
  have:w.heap.size < w.heap.size:=(H.out.own.lt _ e).2;omega
 case e6 => rw [catB_one,List.length_append,HZL.out,HN.out];omega
 rintro e w3 ⟨v',rfl,hs3,hk3,hn3⟩;rw [catB_one] at hs3
 have F:Hid (PutPost w g B v bs Z (.returned (.tuple #[])) w3):=Lib.hid ⟨v',rfl,hs3,((HK2.out.of_none _).alloc _).trans hk3,fun k hk => by
  rcases hn3 k hk with h1 | h1
  ·exact Or.inl h1
  ·exact Or.inr (Nat.le_trans (HK2.out.alloc _).size h1)⟩
 clear hs3 hk3 hn3
 go_wp2
 go_end0
 exact F.out
theorem out_any (w:World) (g B:Nat) (v:Value) (bs:List UInt8) (h:Snk w g B v bs) (hn:bs.length≤140737488351232) :
 Calls Tryd.prog 15 #[.pointer (some ⟨g,0,none⟩)] w (ClonePost w bs.length bs):=by
 have h0:=h.c0;have hs:=h.own.slice;clear h;obtain ⟨p,c,rfl,h1,h2,h3,h4,h5⟩:=hs;have HB:=Lib.hid h3;clear h1 h2 h3 h4 h5
 go_enter Tryd.func15,Tryd.ntmps15
 go_wp2_with fail
 refine (clone_any w p _ c bs HB.out rfl hn).mono ?_
 rintro e w1 ⟨v',rfl,ho1,hk1⟩;have HO:=Lib.hid ho1;have HK:=Lib.hid hk1;clear ho1 hk1
 go_wp2
 go_ret
 exact ⟨v',rfl,HO.out,HK.out⟩
end Go.Proofs.YtnpkcneojilmkaaDoor.Block
end
