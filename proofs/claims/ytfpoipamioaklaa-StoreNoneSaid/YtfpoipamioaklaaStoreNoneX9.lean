/- Texts of this seat, merged: what the proof reaches. -/
import Derived.Test.YtfpoipamioaklaaStoreNoneX7
import Derived.Deep.DeepCutAuto
import Derived.WalkSpells
import Derived.Test.YtfpoipamioaklaaStoreNoneX6
namespace Go.Proofs.Ytfpoipamioaklaa
namespace Base
end Base
namespace Bk
end Bk
namespace Block
end Block
namespace Byt
end Byt
namespace Mk
end Mk
namespace Txt
end Txt
end Go.Proofs.Ytfpoipamioaklaa
section
namespace Go.Proofs.Ytfpoipamioaklaa.Sto
open Go.ChangeShapes Go.WideShapes Go.ChangeAt Go.RowKit Base Byt Txt Bk Mk Block Go.Lib
set_option linter.unusedVariables false
set_option maxRecDepth 100000
section
variable {w w':World} {g A F:Nat} {M M':SM} {v:Int → Value} {own:Nat → Prop}
theorem SstD.create_ (h:SstD w g M A F v) (hk:Kept (fun b => b=g ∨ b=A) w w') (ho:Blk w' g 53 #[.map (some A),.int .i64 ((createS M).runs.length:Nat),.int .i64 ((createS M).room:Nat),.map (some F),.int .i64 ((createS M).writes:Nat),.int .i64 (usedS (createS M):Nat),.int .i64 ((createS M).peak:Nat)])
 (hm:MapK intK w' A (fun y => if y=(M.runs.length:Int) then some (.slice none 0 0) else runsV M v y)):SstD w' g (createS M) A F (fun y => if y=(M.runs.length:Int) then .slice none 0 0 else v y) where
 obj:=ho
 runs:=by
  have e:runsV (createS M) (fun y => if y=(M.runs.length:Int) then .slice none 0 0 else v y)=fun y => if y=(M.runs.length:Int) then some (.slice none 0 0) else runsV M v y:=by
   funext y
   unfold runsV;rw [has_create]
   by_cases hy:y=(M.runs.length:Int)
   ·simp [hy]
   ·simp [hy]
  rw [e];exact hm
 fails:=h.fails.kept hk (fun e => by rcases e with e | e;exact h.ne_map.2 e.symm;exact h.two e.symm)
 data:=fun i hi => by
  rw [run_create];rw [has_create] at hi
  by_cases hy:i=(M.runs.length:Int)
  ·subst hy
   rw [if_pos rfl,runS_none (by rw [has_nat,decide_eq_false (by omega)];rfl)]
   exact World.ownsRow_nil w' 0 5 1
  ·rw [if_neg hy] at hi ⊢
   exact (h.data i hi).kept hk (fun b hb e => by rcases e with e | e;exact (h.ne_data hi hb).1 e;exact (h.ne_data hi hb).2.1 e)
 apart:=fun i j b hi hj hbi hbj => by
  rw [has_create] at hi hj
  by_cases hyi:i=(M.runs.length:Int)
  ·rw [if_pos hyi] at hbi;cases hbi
  by_cases hyj:j=(M.runs.length:Int)
  ·rw [if_pos hyj] at hbj;cases hbj
  rw [if_neg hyi] at hi hbi;rw [if_neg hyj] at hj hbj;exact h.apart i j b hi hj hbi hbj
 room:=h.room
 two:=h.two
theorem sstOwn_create {b:Nat} (h:sstOwn (createS M) g A F (fun y => if y=(M.runs.length:Int) then .slice none 0 0 else v y) b):sstOwn M g A F v b:=by
 rcases h with h | h | h | ⟨i,hi,hb⟩
 ·exact .inl h
 ·exact .inr (.inl h)
 ·exact .inr (.inr (.inl h))
 ·rw [has_create] at hi
  dsimp only at hb
  by_cases hy:i=(M.runs.length:Int)
  ·rw [if_pos hy] at hb;cases hb
  ·rw [if_neg hy] at hi hb
   exact .inr (.inr (.inr ⟨i,hi,hb⟩))
theorem SstD.drop_ (h:SstD w g M A F v) {id:Int} (hh:hasS M id=true) (hk:Kept (fun b => b=g ∨ b=A) w w') (ho:Blk w' g 53 #[.map (some A),.int .i64 ((dropM M id).runs.length:Nat),.int .i64 ((dropM M id).room:Nat),.map (some F),.int .i64 ((dropM M id).writes:Nat),.int .i64 (usedS (dropM M id):Nat),.int .i64 ((dropM M id).peak:Nat)])
 (hm:MapK intK w' A (fun y => if y=id then none else runsV M v y)):SstD w' g (dropM M id) A F v where
 obj:=ho
 runs:=by
  have e:runsV (dropM M id) v=fun y => if y=id then none else runsV M v y:=by
   funext y
   unfold runsV;rw [has_drop hh]
   by_cases hy:y=id
   ·simp [hy]
   ·simp [hy]
  rw [e];exact hm
 fails:=h.fails.kept hk (fun e => by rcases e with e | e;exact h.ne_map.2 e.symm;exact h.two e.symm)
 data:=fun i hi => by
  rw [has_drop hh] at hi
  by_cases hy:i=id
  ·rw [if_pos hy] at hi;cases hi
  ·rw [if_neg hy] at hi
   rw [run_drop hh hy];exact (h.data i hi).kept hk (fun b hb e => by rcases e with e | e;exact (h.ne_data hi hb).1 e;exact (h.ne_data hi hb).2.1 e)
 apart:=fun i j b hi hj => by
  rw [has_drop hh] at hi hj
  by_cases hyi:i=id
  ·rw [if_pos hyi] at hi;cases hi
  by_cases hyj:j=id
  ·rw [if_pos hyj] at hj;cases hj
  rw [if_neg hyi] at hi;rw [if_neg hyj] at hj;exact h.apart i j b hi hj
 room:=h.room
 two:=h.two
theorem sstOwn_drop {id:Int} (hh:hasS M id=true) {b:Nat} (h:sstOwn (dropM M id) g A F v b):sstOwn M g A F v b:=by
 rcases h with h | h | h | ⟨i,hi,hb⟩
 ·exact .inl h
 ·exact .inr (.inl h)
 ·exact .inr (.inr (.inl h))
 ·rw [has_drop hh] at hi
  by_cases hy:i=id
  ·rw [if_pos hy] at hi;cases hi
  ·rw [if_neg hy] at hi
   exact .inr (.inr (.inr ⟨i,hi,hb⟩))
end
set_option maxHeartbeats 8000000 in
theorem sstCreate_any {w:World} {g:Nat} {M:SM} {own:Nat → Prop} (h:StoAt w g M own) (hs:SmallS M):Calls Try.prog 9 #[ptrS g] w (ChgPost StoAt w g own (.tuple #[.int .i64 (M.runs.length:Nat),.int .i64 0]) (createS M)):=by
 obtain ⟨A,F,v,h,ho⟩:=h;have c0:=h.obj.cell 0;have c1:=h.obj.cell 1;simp only [List.getElem?_toArray,List.getElem?_cons_zero,List.getElem?_cons_succ] at c0 c1;have HH:=Lib.hid h;have HO:=Lib.hid ho;have hrn:=hs.runs;obtain ⟨n,hn⟩:∃ n,M.runs.length=n:=⟨_,rfl⟩;rw [hn] at c1 hrn ⊢;have HN:=Lib.hid hn;have hne:((n:Int) == 65536)=false:=by simp;omega
 have hwn:IntKind.i64.wrap ((n:Int)+1)=((n+1:Nat):Int):=by rw [IntKind.wrap_i64];omega
 have qm:∀ w:World,(binOp .eql 50 (.map (some A)) (.map none)).run Try.prog w=.ok (.bool false) w:=fun w => run_eql_map_nil w _ _ _ (some A) Try.underlying50
 clear h ho hs hn
 go_enter Try.func9,Try.ntmps9
 go_upto_region 8 with fail
 go_wp2_with (at_mapUpdate;refine wpList_putK (K:=intK) rfl (.tmp 28) (.tmp 29) (.const (.slice none 0 0)) rfl Try.underlying50 Try.underlying3 A HH.out.runs rfl (n:Int) rfl (.slice none 0 0) rfl ?_)
 intro w8 hm8 hk8 hs8;have hb8:=HH.out.obj.keptS hk8.out (fun e => HH.out.ne_map.1 e)
 have d1:=hb8.cell 1;have f1:=hb8.frozen 1;simp only [List.getElem?_toArray,List.getElem?_cons_zero,List.getElem?_cons_succ] at d1;rw [HN.out] at d1;have HB8:=Lib.hid hb8;clear c0 c1 hb8 hs8
 go_wp2
 go_ret2
 have hk9:Kept (fun b => b=g ∨ b=A) w (w8.setCell ⟨g,1,none⟩ (.int .i64 ((n+1:Nat):Int))):=(hk8.out.mono (fun b hb => .inr hb)).setCell (.inr (.inl rfl)) _
 have hb9:=HB8.out.set 1 (.int .i64 ((n+1:Nat):Int)) (by simp)
 have hD:=HH.out.create_ hk9 (by
  rw [used_create];have e:(createS M).runs.length=n+1:=by rw [← HN.out];simp [createS]
  rw [e];exact hb9) (by
  rw [HN.out]
  exact hm8.out.kept (Kept.setCell (Kept.refl (oneB g) w8) (a:=⟨g,1,none⟩) (.inr rfl) _) (fun e => HH.out.ne_map.1 (show A=g from e).symm))
 exact ⟨_,rfl,⟨A,F,_,hD,fun b => Iff.rfl⟩,fun b hb => .inl ((HO.out b).2 (sstOwn_create hb)),hk9.mono (fun b hb => (HO.out b).2 (by rcases hb with hb | hb;exact .inl hb;exact .inr (.inl hb)))⟩
set_option maxHeartbeats 8000000 in
theorem sstDrop_any {w:World} {g:Nat} {M:SM} {own:Nat → Prop} (h:StoAt w g M own) (hs:SmallS M) (id:Int):Calls Try.prog 14 #[ptrS g,.int .i64 id] w (ChgPost StoAt w g own (.int .i64 (dropS M id).1) (dropS M id).2):=by
 obtain ⟨A,F,v,h,ho⟩:=h;have c0:=h.obj.cell 0;simp only [List.getElem?_toArray,List.getElem?_cons_zero] at c0;have lk:=h.look_ok id;have HH:=Lib.hid h;have HO:=Lib.hid ho;obtain ⟨T,hT⟩:∃ T,hasS M id=T:=⟨_,rfl⟩;have HT:=Lib.hid hT;have HS:=Lib.hid hs;clear h ho hs
 cases T with
 | false =>
   rw [runsV_no hT] at lk;have lk2:(Instr.lookup 50 (.map (some A)) (.int .i64 id) true).run Try.prog w=.ok (.tuple #[.slice none 0 0,.bool false]) w:=lk;rw [show dropS M id=(14,M) by unfold dropS;rw [if_pos hT]]
   clear lk hT
   go_enter Try.func14,Try.ntmps14
   go_wp2
   go_ret
   exact ⟨_,rfl,⟨A,F,v,HH.out,HO.out⟩,fun b hb => .inl hb,Kept.refl _ _⟩
 | true =>
   rw [runsV_yes hT] at lk;obtain ⟨p,c,hv,_⟩:=(HH.out.data id hT).slice;rw [hv] at lk;have hus:=used_drop hT;have hum:=HS.out.used;obtain ⟨n,hn⟩:∃ n,(runS M id).length=n:=⟨_,rfl⟩;obtain ⟨u,hu⟩:∃ u,usedS M=u:=⟨_,rfl⟩;obtain ⟨u',hu'⟩:∃ u',usedS (dropM M id)=u':=⟨_,rfl⟩;rw [hu,hn,hu'] at hus;rw [hu] at hum;rw [hn] at lk;have HU:=Lib.hid (And.intro hu hu');have lk2:(Instr.lookup 50 (.map (some A)) (.int .i64 id) true).run Try.prog w=.ok (.tuple #[.slice p n c,.bool true]) w:=lk;rw [dropS_yes hT];have hwn:IntKind.i64.wrap ((u:Int) - (n:Int))=((u':Nat):Int):=by rw [IntKind.wrap_i64];omega
   clear lk hT hv hn hu hu'
   go_enter Try.func14,Try.ntmps14
   go_upto_region 6 with fail
   go_wp2_with (at_delete;refine wpList_delK (K:=intK) rfl (.tmp 23) (.tmp 24) 50 3 rfl 32 Try.underlying50 Try.underlying3 A HH.out.runs rfl id rfl ?_)
   intro w8 hm8 hk8 hs8;have hb8:=HH.out.obj.keptS hk8.out (fun e => HH.out.ne_map.1 e)
   have d5:=hb8.cell 5;have f5:=hb8.frozen 5;simp only [List.getElem?_toArray,List.getElem?_cons_zero,List.getElem?_cons_succ] at d5;rw [HU.out.1] at d5;have HB8:=Lib.hid hb8;clear c0 hb8 hs8
   go_wp2
   go_ret
   have hk9:Kept (fun b => b=g ∨ b=A) w (w8.setCell ⟨g,5,none⟩ (.int .i64 ((u':Nat):Int))):=(hk8.out.mono (fun b hb => .inr hb)).setCell (.inr (.inl rfl)) _
   have hb9:=HB8.out.set 5 (.int .i64 ((u':Nat):Int)) (by simp)
   have hD:=HH.out.drop_ HT.out hk9 (by
    rw [HU.out.2];have e:(dropM M id).runs.length=M.runs.length:=by simp [dropM]
    rw [e]
    exact hb9) (hm8.out.kept (Kept.setCell (Kept.refl (oneB g) w8) (a:=⟨g,5,none⟩) (.inr rfl) _) (fun e => HH.out.ne_map.1 (show A=g from e).symm))
   exact ⟨_,rfl,⟨A,F,_,hD,fun b => Iff.rfl⟩,fun b hb => .inl ((HO.out b).2 (sstOwn_drop HT.out hb)),hk9.mono (fun b hb => (HO.out b).2 (by rcases hb with hb | hb;exact .inl hb;exact .inr (.inl hb)))⟩
end Go.Proofs.Ytfpoipamioaklaa.Sto
end
section
namespace Go.Proofs.Ytfpoipamioaklaa.Sto
open Go.ChangeShapes Go.WideShapes Go.ChangeAt Go.RowKit Base Byt Txt Bk Mk Block Go.Lib
set_option linter.unusedVariables false
set_option maxRecDepth 100000
theorem SstD.fails_ {w w':World} {g A F:Nat} {M:SM} {v:Int → Value} (h:SstD w g M A F v) (hk:Kept (oneB F) w w') {fs:List Int} (hm:MapK intK w' F (failsV fs)):SstD w' g { M with fails:=fs } A F v where
 obj:=h.obj.keptS hk (fun e => h.ne_map.2 e)
 runs:=h.runs.kept hk (fun e => h.two e)
 fails:=hm
 data:=fun i hi => (h.data i hi).kept hk (fun b hb e => (h.ne_data hi hb).2.2 e)
 apart:=h.apart
 room:=h.room
 two:=h.two
theorem failsV_succ {zs:List Int} {k:Nat} (hk:k < zs.length) {x:Int} (hx:zs.getD k 0=x):failsV (zs.take (k+1))=fun y => if y=x then some (.agg #[]) else failsV (zs.take k) y:=by
 have e:zs.take (k+1)=zs.take k++[x]:=by
  rw [List.take_add_one,List.getElem?_eq_getElem hk,← hx,List.getD,List.getElem?_eq_getElem hk];rfl
 funext y
 unfold failsV;rw [e]
 by_cases hy:y=x
 ·simp [hy]
 ·simp [hy]
structure NewJ (w wr:World) (g A F:Nat) (room:Int) (zs:List Int) (k:Nat):Prop where
 bel:Below w.heap.size w wr
 at_:SstD wr g (newS room (zs.take k)) A F (fun _ => .slice none 0 0)
 new:w.heap.size≤g∧w.heap.size≤A∧w.heap.size≤F
set_option maxHeartbeats 8000000 in
theorem sstNew_any (w:World) (room:Int) (q:Option Addr) (m d:Nat) (zs:List Int) (hi:IAt w q m zs) (hl:zs.length=m) (hmd:m≤d) (hd:d≤maxLen) (hm:m≤1000) (h1:-9223372036854775808≤room) (h2:room≤9223372036854775807) :
 Calls Try.prog 8 #[.int .i64 room,.slice q m d] w (NewPost14 StoAt w (newS room zs)):=by
 have hmm:=@run_makeMap Try.prog;obtain ⟨R,hR⟩:∃ R:Nat,room.toNat=R:=⟨_,rfl⟩;have hmx:(if room < 0 then (0:Int) else room)=(R:Int):=by split<;>omega
 have HI:=Lib.hid hi;have HL:=Lib.hid hl;obtain ⟨W1,hW1⟩:∃ W1,((w.alloc (.map #[] 0)).alloc (.map #[] 0)).alloc (.cells #[.map (some w.heap.size),.int .i64 0,.int .i64 (R:Int),.map (some (w.heap.size+1)),.int .i64 0,.int .i64 0,.int .i64 0] 53)=W1:=⟨_,rfl⟩
 have HJ:Hid (NewJ w W1 (w.heap.size+1+1) w.heap.size (w.heap.size+1) room zs 0):=by
  have b1:Below w.heap.size w (w.alloc (.map #[] 0)):=(Below.refl _ _).alloc (Nat.le_refl _) _;have b2:Below w.heap.size w ((w.alloc (.map #[] 0)).alloc (.map #[] 0)):=b1.alloc b1.size _;have b3:Below w.heap.size w W1:=by rw [← hW1];exact b2.alloc b2.size _
  have hb:=Blk.new ((w.alloc (.map #[] 0)).alloc (.map #[] 0)) 53 #[.map (some w.heap.size),.int .i64 0,.int .i64 (R:Int),.map (some (w.heap.size+1)),.int .i64 0,.int .i64 0,.int .i64 0];have e:((w.alloc (.map #[] 0)).alloc (.map #[] 0)).heap.size=w.heap.size+1+1:=by simp
  have e1:(w.alloc (.map #[] 0)).heap.size=w.heap.size+1:=by simp
  rw [e,hW1] at hb;have m1:=(mapK_made intK w).kept ((Kept.refl noneB _).alloc (.map #[] 0)) (fun h => h)
  have m2:=mapK_made intK (w.alloc (.map #[] 0));rw [e1] at m2;refine Lib.hid ⟨b3,⟨?_,?_,?_,fun i hi => ?_,fun i j b hi => ?_,?_,by omega⟩,by omega,by omega,by omega⟩
  ·rw [← hR] at hb
   exact hb
  ·have e:runsV (newS room (zs.take 0)) (fun _ => .slice none 0 0)=fun _ => none:=by
    funext y
    exact runsV_no (by unfold hasS newS;simp)
   rw [e,← hW1];exact m1.kept ((Kept.refl noneB _).alloc _) (fun h => h)
  ·have e:failsV (newS room (zs.take 0)).fails=fun _ => none:=by
    funext y
    unfold failsV newS;simp
   rw [e,← hW1];exact m2.kept ((Kept.refl noneB _).alloc _) (fun h => h)
  ·unfold hasS newS at hi
   simp at hi
  ·unfold hasS newS at hi
   simp at hi
  ·show room.toNat≤_
   omega
 clear hi hl hmd hd hR
 go_enter Try.func8,Try.ntmps8
 go_upto_region 2 with fail
 clear hW1 hmx hmm
 go_wp2_with fail
 go_loopw [7,16] (fun _ i wr => ∃ (k:Nat),k≤m∧i=.int .i64 (k:Int)∧Hid (NewJ w wr (w.heap.size+1+1) w.heap.size (w.heap.size+1) room zs k)) (fun _ i _ => m - (RowKit.intOf i).toNat)
 case atStart => exact ⟨0,Nat.zero_le _,rfl,HJ⟩
 case round =>
  obtain ⟨k,hk,rfl,hJ⟩:=hrel;clear HJ
  by_cases hlt:k < m
  ·have hltz:(k:Int) < (m:Int):=by omega
   obtain ⟨b,o,rfl,hbw,hcell⟩:=(HI.out.kept (Kept.of_below hJ.out.bel noneB) (fun _ _ _ h => h)) (by omega)
   have hx:=hcell k hlt;obtain ⟨x,hxx⟩:∃ x,zs.getD k 0=x:=⟨_,rfl⟩;rw [hxx] at hx;have HX:=Lib.hid hxx;have c3:=hJ.out.at_.obj.cell 3;simp only [List.getElem?_toArray,List.getElem?_cons_zero,List.getElem?_cons_succ] at c3;clear hcell hbw hxx
   go_upto_region 5 with fail
   go_wp2_with (at_mapUpdate;refine wpList_putK (K:=intK) rfl (.tmp 23) (.tmp 24) (.tmp 25) rfl Try.underlying51 Try.underlying3 (w.heap.size+1) hJ.out.at_.fails rfl x rfl (.agg #[]) rfl ?_)
   intro w7 hm7 hk7 hs7
   have HN:Hid (NewJ w w7 (w.heap.size+1+1) w.heap.size (w.heap.size+1) room zs (k+1)):=by
    refine Lib.hid ⟨hJ.out.bel.trans (hk7.out.below hJ.out.bel.size (fun b hb => by rw [show b=_ from hb];omega)),?_,hJ.out.new⟩
    have h2:=hJ.out.at_.fails_ hk7.out (fs:=zs.take (k+1)) (by rw [failsV_succ (by rw [HL.out];exact hlt) HX.out];exact hm7.out)
    exact h2
   clear hm7 hk7 hs7 hx c3 hJ
   go_wp2
   go_roundw
   case rel => exact ⟨k+1,by omega,by go_num,HN⟩
   case measure => simp [RowKit.intOf];omega
  ·obtain rfl:k=m:=by omega
   have hks:¬ ((k:Int) < (k:Int)):=by omega
   go_wp2
   go_ret
   have h3:=hJ.out.at_;rw [show zs.take k=zs by rw [← HL.out,List.take_length]] at h3
   refine ⟨w.heap.size+1+1,_,rfl,⟨_,_,_,h3,fun b => Iff.rfl⟩,fun b hb => ?_,hJ.out.bel⟩
   rcases hb with hb | hb | hb | ⟨i,hi,hb⟩
   ·omega
   ·omega
   ·omega
   ·cases hb
end Go.Proofs.Ytfpoipamioaklaa.Sto
end
section
namespace Go.Proofs.Ytfpoipamioaklaa.Sto
open Go.ChangeShapes Go.WideShapes Go.ChangeAt Go.RowKit Base Byt Txt Bk Mk Block Go.Lib
set_option linter.unusedVariables false
set_option maxRecDepth 100000
def CloneP (w:World) (n:Nat) (bs:List UInt8) (e:Ending) (w':World):Prop:=∃ v,e=.returned v∧OwnB w' w.heap.size v n bs∧Kept noneB w w'
theorem eql_nil_slice (w:World) (p:Option Addr) (n c:Nat):(binOp .eql 32 (.slice p n c) (.slice none 0 0)).run Try.prog w=.ok (.bool p.isNone) w:=run_eql_slice_nil w _ _ p n c 0 0 Try.underlying32
set_option maxHeartbeats 8000000 in
theorem clone_any (w:World) (p:Option Addr) (n c:Nat) (bs:List UInt8) (hb:BAt w p n bs) (hl:bs.length=n) (hn:n≤1000000):Calls Try.prog 21 #[.slice p n c] w (CloneP w n bs):=by
 cases p with
 | none =>
   have h0:n=0:=by
    rcases Nat.eq_zero_or_pos n with h0 | h0
    ·exact h0
    ·obtain ⟨_,_,he,_⟩:=hb h0
     cases he
   subst h0;obtain rfl:bs=[]:=List.eq_nil_of_length_eq_zero hl;have qm:=fun w => eql_nil_slice w none 0 c
   clear hb hl
   go_enter Try.func21,Try.ntmps21
   go_wp2
   go_ret
   exact ⟨_,rfl,World.ownsRow_nil _ _ 5 1,Kept.refl _ _⟩
 | some ad =>
   have HO1:Hid (OwnB (w.alloc (.cells #[] 5)) w.heap.size (.slice (some ⟨w.heap.size,0,none⟩) 0 0) 0 []):=Lib.hid (World.ownsRow_made w #[] 0 (Nat.le_refl _) (by decide) rfl)
   have HK:Hid (Kept noneB w (w.alloc (.cells #[] 5))):=Lib.hid ((Kept.refl _ _).alloc _);have HB:=Lib.hid (hb.kept HK.out (fun _ _ _ h => h))
   have HL:=Lib.hid hl;have qm:=fun w => eql_nil_slice w (some ad) n c
   clear hb hl
   go_enter Try.func21,Try.ntmps21
   go_wp2_with (at_builtin;refine append_own rfl (.tmp 5) (.tmp 6) rfl w.heap.size _ 0 [] rfl HO1.out (some ad) n c bs rfl HB.out HL.out (by omega) (by simp) ?_)
   intro v3 w3 hown hgrow;have HKB:Hid (Kept noneB w w3):=Lib.hid (HK.out.grown hgrow (by intro k hk;simp [Value.ownBlock] at hk;omega))
   have HO:=Lib.hid hown;clear hown hgrow
   go_wp2
   go_ret
   exact ⟨_,rfl,HO.out,HKB.out⟩
set_option maxHeartbeats 8000000 in
theorem sstRead_any {w:World} {g:Nat} {M:SM} {own:Nat → Prop} (h:StoAt w g M own) (hs:SmallS M) (id at_ nn:Int):Calls Try.prog 12 #[ptrS g,.int .i64 id,.int .i64 at_,.int .i64 nn] w (ReadPost14 w (readS M id at_ nn)):=by
 obtain ⟨A,F,v,h,ho⟩:=h;have c0:=h.obj.cell 0;simp only [List.getElem?_toArray,List.getElem?_cons_zero] at c0;have lk:=h.look_ok id;have HH:=Lib.hid h;obtain ⟨T,hT⟩:∃ T,hasS M id=T:=⟨_,rfl⟩
 cases T with
 | false =>
   rw [runsV_no hT] at lk;have lk2:(Instr.lookup 50 (.map (some A)) (.int .i64 id) true).run Try.prog w=.ok (.tuple #[.slice none 0 0,.bool false]) w:=lk;rw [show readS M id at_ nn=([],14) by unfold readS;rw [if_pos hT]]
   clear lk hT h ho hs
   go_enter Try.func12,Try.ntmps12
   go_wp2
   go_ret2
   exact ⟨_,rfl,World.ownsRow_nil _ _ 5 1,Kept.refl _ _⟩
 | true =>
   rw [runsV_yes hT] at lk;obtain ⟨p,c,hv,hnc,hcm,hbt,hln,_⟩:=(h.data id hT).slice;rw [hv] at lk;obtain ⟨bs,hbs⟩:∃ bs,runS M id=bs:=⟨_,rfl⟩
   have hbl:bs.length≤1000000:=by
    obtain ⟨k,rfl,hk,_⟩:=has_iff.1 hT;rw [← hbs,runS_some hT];refine hs.each _ ?_
    rw [List.getD,List.getElem?_eq_getElem hk];exact List.getElem_mem hk
   rw [show readS M id at_ nn=if at_ < 0 ∨ nn < 0 ∨ (bs.length:Int) < at_ then ([],1) else ((bs.drop at_.toNat).take nn.toNat,0) by unfold readS;rw [if_neg (by rw [hT];decide),hbs]]
   rw [hbs] at lk hnc hbt;obtain ⟨L,hL⟩:∃ L,bs.length=L:=⟨_,rfl⟩;rw [hL] at lk hnc hbt hbl ⊢;have lk2:(Instr.lookup 50 (.map (some A)) (.int .i64 id) true).run Try.prog w=.ok (.tuple #[.slice p L c,.bool true]) w:=lk;have HL:=Lib.hid hL;have HB:=Lib.hid hbt;clear lk hT hv hbs hL hbt h ho hs HH hln
   by_cases hA:at_ < 0
   ·rw [if_pos (by omega)]
    go_enter Try.func12,Try.ntmps12
    go_wp2
    go_ret2
    exact ⟨_,rfl,World.ownsRow_nil _ _ 5 1,Kept.refl _ _⟩
   by_cases hN:nn < 0
   ·rw [if_pos (by omega)]
    go_enter Try.func12,Try.ntmps12
    go_wp2
    go_ret2
    exact ⟨_,rfl,World.ownsRow_nil _ _ 5 1,Kept.refl _ _⟩
   by_cases hC:(L:Int) < at_
   ·rw [if_pos (by omega)]
    go_enter Try.func12,Try.ntmps12
    go_wp2
    go_ret2
    exact ⟨_,rfl,World.ownsRow_nil _ _ 5 1,Kept.refl _ _⟩
   rw [if_neg (by omega)]
   obtain ⟨a,rfl⟩:∃ a:Nat,at_=(a:Int):=⟨at_.toNat,by omega⟩
   obtain ⟨N,rfl⟩:∃ N:Nat,nn=(N:Int):=⟨nn.toNat,by omega⟩
   have haZ:a≤L:=by omega
   obtain ⟨K,hK⟩:∃ K,min N (L - a)=K:=⟨_,rfl⟩;have hmin:(if L - a < N then ((L - a:Nat):Int) else (N:Int))=(K:Int):=by split<;>omega
   have hac:(a:Int)≤(c:Int):=by omega
   have hLc:(L:Int)≤(c:Int):=by omega
   have hKD:(K:Int)≤((L - a:Nat):Int):=by omega
   have hKC:(K:Int)≤((c - a:Nat):Int):=by omega
   have EX:Hid ((bs.drop ((a:Int)).toNat).take ((N:Int)).toNat=(bs.drop a).take K∧((bs.drop a).take K).length=K):=Lib.hid (by
    have e:(bs.drop a).length=L - a:=by rw [List.length_drop,HL.out]
    refine ⟨?_,by rw [List.length_take];omega⟩
    show (bs.drop a).take N=_
    exact List.take_eq_take_iff.2 (by omega))
   rw [EX.out.1]
   have hcl:∀ P' C',P'=(if c=a then p else p.map (·.add a)) → Calls Try.prog 21 #[.slice P' K C'] w (CloneP w K ((bs.drop a).take K)):=fun P' C' hP => by
    subst hP;exact clone_any w _ K C' _ ((HB.out.drop haZ (by omega) HL.out).take (by omega)) EX.out.2 (by omega)
   have HCL:=Lib.hid hcl;clear hcl hK
   cases p with
   | none =>
     have HC:=Lib.hid (HCL.out none (c - a) (by split<;>rfl))
     clear HCL
     go_enter Try.func12,Try.ntmps12
     go_wp2_with fail
     refine HC.out.mono ?_
     rintro e w6 ⟨v6,rfl,ho,hk⟩;have HO:=Lib.hid ho;have HK:=Lib.hid hk;clear ho hk
     go_wp2
     go_ret2
     exact ⟨_,rfl,by rw [EX.out.2];exact HO.out,HK.out⟩
   | some ax =>
     by_cases hca:c=a
     ·have HC:=Lib.hid (HCL.out (some ax) 0 (by rw [if_pos hca]))
      clear HCL
      go_enter Try.func12,Try.ntmps12
      go_wp2_with fail
      refine HC.out.mono ?_
      rintro e w6 ⟨v6,rfl,ho,hk⟩;have HO:=Lib.hid ho;have HK:=Lib.hid hk;clear ho hk
      go_wp2
      go_ret2
      exact ⟨_,rfl,by rw [EX.out.2];exact HO.out,HK.out⟩
     ·have HC:=Lib.hid (HCL.out (some (ax.add a)) (c - a) (by rw [if_neg hca];rfl))
      clear HCL
      go_enter Try.func12,Try.ntmps12
      go_wp2_with fail
      refine HC.out.mono ?_
      rintro e w6 ⟨v6,rfl,ho,hk⟩;have HO:=Lib.hid ho;have HK:=Lib.hid hk;clear ho hk
      go_wp2
      go_ret2
      exact ⟨_,rfl,by rw [EX.out.2];exact HO.out,HK.out⟩
end Go.Proofs.Ytfpoipamioaklaa.Sto
end
