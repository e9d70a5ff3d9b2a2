/- Texts of this seat, merged: what the proof reaches. -/
import Derived.Test.YtfpoipamioaklaaStorePlaysX12
import Derived.Deep.DeepCutAuto
import Derived.WalkSpells
import Derived.Test.YtfpoipamioaklaaStorePlaysX7
import Derived.Deep.RegionLaw
import Derived.BigQuiet
import Derived.Test.YtfpoipamioaklaaStorePlaysX14
namespace Go.Proofs.Ytfpoipamioaklaa
namespace Base
end Base
namespace Bk
end Bk
namespace Block
end Block
namespace Byt
end Byt
namespace Mk
end Mk
namespace Sto
end Sto
namespace Txt
end Txt
end Go.Proofs.Ytfpoipamioaklaa
section
namespace Go.Proofs.Ytfpoipamioaklaa.Sto
open Go.ChangeShapes Go.WideShapes Go.ChangeAt Go.RowKit Base Byt Txt Bk Mk Block Go.Lib
set_option linter.unusedVariables false
set_option maxRecDepth 100000
section
variable {w w':World} {g A F:Nat} {M M':SM} {v:Int → Value} {own:Nat → Prop}
theorem SstD.create_ (h:SstD w g M A F v) (hk:Kept (fun b => b=g ∨ b=A) w w') (ho:Blk w' g 53 #[.map (some A),.int .i64 ((createS M).runs.length:Nat),.int .i64 ((createS M).room:Nat),.map (some F),.int .i64 ((createS M).writes:Nat),.int .i64 (usedS (createS M):Nat),.int .i64 ((createS M).peak:Nat)])
 (hm:MapK intK w' A (fun y => if y=(M.runs.length:Int) then some (.slice none 0 0) else runsV M v y)):SstD w' g (createS M) A F (fun y => if y=(M.runs.length:Int) then .slice none 0 0 else v y) where
 obj:=ho
 runs:=by
  have e:runsV (createS M) (fun y => if y=(M.runs.length:Int) then .slice none 0 0 else v y)=fun y => if y=(M.runs.length:Int) then some (.slice none 0 0) else runsV M v y:=by
   funext y
   unfold runsV;rw [has_create]
   by_cases hy:y=(M.runs.length:Int)
   ·simp [hy]
   ·simp [hy]
  rw [e];exact hm
 fails:=h.fails.kept hk (fun e => by rcases e with e | e;exact h.ne_map.2 e.symm;exact h.two e.symm)
 data:=fun i hi => by
  rw [run_create];rw [has_create] at hi
  by_cases hy:i=(M.runs.length:Int)
  ·subst hy
   rw [if_pos rfl,runS_none (by rw [has_nat,decide_eq_false (by omega)];rfl)]
   exact World.ownsRow_nil w' 0 5 1
  ·rw [if_neg hy] at hi ⊢
   exact (h.data i hi).kept hk (fun b hb e => by rcases e with e | e;exact (h.ne_data hi hb).1 e;exact (h.ne_data hi hb).2.1 e)
 apart:=fun i j b hi hj hbi hbj => by
  rw [has_create] at hi hj
  by_cases hyi:i=(M.runs.length:Int)
  ·rw [if_pos hyi] at hbi;cases hbi
  by_cases hyj:j=(M.runs.length:Int)
  ·rw [if_pos hyj] at hbj;cases hbj
  rw [if_neg hyi] at hi hbi;rw [if_neg hyj] at hj hbj;exact h.apart i j b hi hj hbi hbj
 room:=h.room
 two:=h.two
theorem sstOwn_create {b:Nat} (h:sstOwn (createS M) g A F (fun y => if y=(M.runs.length:Int) then .slice none 0 0 else v y) b):sstOwn M g A F v b:=by
 rcases h with h | h | h | ⟨i,hi,hb⟩
 ·exact .inl h
 ·exact .inr (.inl h)
 ·exact .inr (.inr (.inl h))
 ·rw [has_create] at hi
  dsimp only at hb
  by_cases hy:i=(M.runs.length:Int)
  ·rw [if_pos hy] at hb;cases hb
  ·rw [if_neg hy] at hi hb
   exact .inr (.inr (.inr ⟨i,hi,hb⟩))
theorem SstD.drop_ (h:SstD w g M A F v) {id:Int} (hh:hasS M id=true) (hk:Kept (fun b => b=g ∨ b=A) w w') (ho:Blk w' g 53 #[.map (some A),.int .i64 ((dropM M id).runs.length:Nat),.int .i64 ((dropM M id).room:Nat),.map (some F),.int .i64 ((dropM M id).writes:Nat),.int .i64 (usedS (dropM M id):Nat),.int .i64 ((dropM M id).peak:Nat)])
 (hm:MapK intK w' A (fun y => if y=id then none else runsV M v y)):SstD w' g (dropM M id) A F v where
 obj:=ho
 runs:=by
  have e:runsV (dropM M id) v=fun y => if y=id then none else runsV M v y:=by
   funext y
   unfold runsV;rw [has_drop hh]
   by_cases hy:y=id
   ·simp [hy]
   ·simp [hy]
  rw [e];exact hm
 fails:=h.fails.kept hk (fun e => by rcases e with e | e;exact h.ne_map.2 e.symm;exact h.two e.symm)
 data:=fun i hi => by
  rw [has_drop hh] at hi
  by_cases hy:i=id
  ·rw [if_pos hy] at hi;cases hi
  ·rw [if_neg hy] at hi
   rw [run_drop hh hy];exact (h.data i hi).kept hk (fun b hb e => by rcases e with e | e;exact (h.ne_data hi hb).1 e;exact (h.ne_data hi hb).2.1 e)
 apart:=fun i j b hi hj => by
  rw [has_drop hh] at hi hj
  by_cases hyi:i=id
  ·rw [if_pos hyi] at hi;cases hi
  by_cases hyj:j=id
  ·rw [if_pos hyj] at hj;cases hj
  rw [if_neg hyi] at hi;rw [if_neg hyj] at hj;exact h.apart i j b hi hj
 room:=h.room
 two:=h.two
theorem sstOwn_drop {id:Int} (hh:hasS M id=true) {b:Nat} (h:sstOwn (dropM M id) g A F v b):sstOwn M g A F v b:=by
 rcases h with h | h | h | ⟨i,hi,hb⟩
 ·exact .inl h
 ·exact .inr (.inl h)
 ·exact .inr (.inr (.inl h))
 ·rw [has_drop hh] at hi
  by_cases hy:i=id
  ·rw [if_pos hy] at hi;cases hi
  ·rw [if_neg hy] at hi
   exact .inr (.inr (.inr ⟨i,hi,hb⟩))
end
set_option maxHeartbeats 8000000 in
theorem sstCreate_any {w:World} {g:Nat} {M:SM} {own:Nat → Prop} (h:StoAt w g M own) (hs:SmallS M):Calls Try.prog 9 #[ptrS g] w (ChgPost StoAt w g own (.tuple #[.int .i64 (M.runs.length:Nat),.int .i64 0]) (createS M)):=by
 obtain ⟨A,F,v,h,ho⟩:=h;have c0:=h.obj.cell 0;have c1:=h.obj.cell 1;simp only [List.getElem?_toArray,List.getElem?_cons_zero,List.getElem?_cons_succ] at c0 c1;have HH:=Lib.hid h;have HO:=Lib.hid ho;have hrn:=hs.runs;obtain ⟨n,hn⟩:∃ n,M.runs.length=n:=⟨_,rfl⟩;rw [hn] at c1 hrn ⊢;have HN:=Lib.hid hn;have hne:((n:Int) == 65536)=false:=by simp;omega
 have hwn:IntKind.i64.wrap ((n:Int)+1)=((n+1:Nat):Int):=by rw [IntKind.wrap_i64];omega
 have qm:∀ w:World,(binOp .eql 50 (.map (some A)) (.map none)).run Try.prog w=.ok (.bool false) w:=fun w => run_eql_map_nil w _ _ _ (some A) Try.underlying50
 clear h ho hs hn
 go_enter Try.func9,Try.ntmps9
 go_upto_region 8 with fail
 go_wp2_with (at_mapUpdate;refine wpList_putK (K:=intK) rfl (.tmp 28) (.tmp 29) (.const (.slice none 0 0)) rfl Try.underlying50 Try.underlying3 A HH.out.runs rfl (n:Int) rfl (.slice none 0 0) rfl ?_)
 intro w8 hm8 hk8 hs8;have hb8:=HH.out.obj.keptS hk8.out (fun e => HH.out.ne_map.1 e)
 have d1:=hb8.cell 1;have f1:=hb8.frozen 1;simp only [List.getElem?_toArray,List.getElem?_cons_zero,List.getElem?_cons_succ] at d1;rw [HN.out] at d1;have HB8:=Lib.hid hb8;clear c0 c1 hb8 hs8
 go_wp2
 go_ret2
 have hk9:Kept (fun b => b=g ∨ b=A) w (w8.setCell ⟨g,1,none⟩ (.int .i64 ((n+1:Nat):Int))):=(hk8.out.mono (fun b hb => .inr hb)).setCell (.inr (.inl rfl)) _
 have hb9:=HB8.out.set 1 (.int .i64 ((n+1:Nat):Int)) (by simp)
 have hD:=HH.out.create_ hk9 (by
  rw [used_create];have e:(createS M).runs.length=n+1:=by rw [← HN.out];simp [createS]
  rw [e];exact hb9) (by
  rw [HN.out]
  exact hm8.out.kept (Kept.setCell (Kept.refl (oneB g) w8) (a:=⟨g,1,none⟩) (.inr rfl) _) (fun e => HH.out.ne_map.1 (show A=g from e).symm))
 exact ⟨_,rfl,⟨A,F,_,hD,fun b => Iff.rfl⟩,fun b hb => .inl ((HO.out b).2 (sstOwn_create hb)),hk9.mono (fun b hb => (HO.out b).2 (by rcases hb with hb | hb;exact .inl hb;exact .inr (.inl hb)))⟩
set_option maxHeartbeats 8000000 in
theorem sstDrop_any {w:World} {g:Nat} {M:SM} {own:Nat → Prop} (h:StoAt w g M own) (hs:SmallS M) (id:Int):Calls Try.prog 14 #[ptrS g,.int .i64 id] w (ChgPost StoAt w g own (.int .i64 (dropS M id).1) (dropS M id).2):=by
 obtain ⟨A,F,v,h,ho⟩:=h;have c0:=h.obj.cell 0;simp only [List.getElem?_toArray,List.getElem?_cons_zero] at c0;have lk:=h.look_ok id;have HH:=Lib.hid h;have HO:=Lib.hid ho;obtain ⟨T,hT⟩:∃ T,hasS M id=T:=⟨_,rfl⟩;have HT:=Lib.hid hT;have HS:=Lib.hid hs;clear h ho hs
 cases T with
 | false =>
   rw [runsV_no hT] at lk;have lk2:(Instr.lookup 50 (.map (some A)) (.int .i64 id) true).run Try.prog w=.ok (.tuple #[.slice none 0 0,.bool false]) w:=lk;rw [show dropS M id=(14,M) by unfold dropS;rw [if_pos hT]]
   clear lk hT
   go_enter Try.func14,Try.ntmps14
   go_wp2
   go_ret
   exact ⟨_,rfl,⟨A,F,v,HH.out,HO.out⟩,fun b hb => .inl hb,Kept.refl _ _⟩
 | true =>
   rw [runsV_yes hT] at lk;obtain ⟨p,c,hv,_⟩:=(HH.out.data id hT).slice;rw [hv] at lk;have hus:=used_drop hT;have hum:=HS.out.used;obtain ⟨n,hn⟩:∃ n,(runS M id).length=n:=⟨_,rfl⟩;obtain ⟨u,hu⟩:∃ u,usedS M=u:=⟨_,rfl⟩;obtain ⟨u',hu'⟩:∃ u',usedS (dropM M id)=u':=⟨_,rfl⟩;rw [hu,hn,hu'] at hus;rw [hu] at hum;rw [hn] at lk;have HU:=Lib.hid (And.intro hu hu');have lk2:(Instr.lookup 50 (.map (some A)) (.int .i64 id) true).run Try.prog w=.ok (.tuple #[.slice p n c,.bool true]) w:=lk;rw [dropS_yes hT];have hwn:IntKind.i64.wrap ((u:Int) - (n:Int))=((u':Nat):Int):=by rw [IntKind.wrap_i64];omega
   clear lk hT hv hn hu hu'
   go_enter Try.func14,Try.ntmps14
   go_upto_region 6 with fail
   go_wp2_with (at_delete;refine wpList_delK (K:=intK) rfl (.tmp 23) (.tmp 24) 50 3 rfl 32 Try.underlying50 Try.underlying3 A HH.out.runs rfl id rfl ?_)
   intro w8 hm8 hk8 hs8;have hb8:=HH.out.obj.keptS hk8.out (fun e => HH.out.ne_map.1 e)
   have d5:=hb8.cell 5;have f5:=hb8.frozen 5;simp only [List.getElem?_toArray,List.getElem?_cons_zero,List.getElem?_cons_succ] at d5;rw [HU.out.1] at d5;have HB8:=Lib.hid hb8;clear c0 hb8 hs8
   go_wp2
   go_ret
   have hk9:Kept (fun b => b=g ∨ b=A) w (w8.setCell ⟨g,5,none⟩ (.int .i64 ((u':Nat):Int))):=(hk8.out.mono (fun b hb => .inr hb)).setCell (.inr (.inl rfl)) _
   have hb9:=HB8.out.set 5 (.int .i64 ((u':Nat):Int)) (by simp)
   have hD:=HH.out.drop_ HT.out hk9 (by
    rw [HU.out.2];have e:(dropM M id).runs.length=M.runs.length:=by simp [dropM]
    rw [e]
    exact hb9) (hm8.out.kept (Kept.setCell (Kept.refl (oneB g) w8) (a:=⟨g,5,none⟩) (.inr rfl) _) (fun e => HH.out.ne_map.1 (show A=g from e).symm))
   exact ⟨_,rfl,⟨A,F,_,hD,fun b => Iff.rfl⟩,fun b hb => .inl ((HO.out b).2 (sstOwn_drop HT.out hb)),hk9.mono (fun b hb => (HO.out b).2 (by rcases hb with hb | hb;exact .inl hb;exact .inr (.inl hb)))⟩
end Go.Proofs.Ytfpoipamioaklaa.Sto
end
section
namespace Go.Proofs.Ytfpoipamioaklaa.Sto
open Go.ChangeShapes Go.WideShapes Go.ChangeAt Go.RowKit Base Byt Txt Bk Mk Block Go.Lib
set_option linter.unusedVariables false
set_option maxRecDepth 100000
theorem SstD.fails_ {w w':World} {g A F:Nat} {M:SM} {v:Int → Value} (h:SstD w g M A F v) (hk:Kept (oneB F) w w') {fs:List Int} (hm:MapK intK w' F (failsV fs)):SstD w' g { M with fails:=fs } A F v where
 obj:=h.obj.keptS hk (fun e => h.ne_map.2 e)
 runs:=h.runs.kept hk (fun e => h.two e)
 fails:=hm
 data:=fun i hi => (h.data i hi).kept hk (fun b hb e => (h.ne_data hi hb).2.2 e)
 apart:=h.apart
 room:=h.room
 two:=h.two
theorem failsV_succ {zs:List Int} {k:Nat} (hk:k < zs.length) {x:Int} (hx:zs.getD k 0=x):failsV (zs.take (k+1))=fun y => if y=x then some (.agg #[]) else failsV (zs.take k) y:=by
 have e:zs.take (k+1)=zs.take k++[x]:=by
  rw [List.take_add_one,List.getElem?_eq_getElem hk,← hx,List.getD,List.getElem?_eq_getElem hk];rfl
 funext y
 unfold failsV;rw [e]
 by_cases hy:y=x
 ·simp [hy]
 ·simp [hy]
structure NewJ (w wr:World) (g A F:Nat) (room:Int) (zs:List Int) (k:Nat):Prop where
 bel:Below w.heap.size w wr
 at_:SstD wr g (newS room (zs.take k)) A F (fun _ => .slice none 0 0)
 new:w.heap.size≤g∧w.heap.size≤A∧w.heap.size≤F
set_option maxHeartbeats 8000000 in
theorem sstNew_any (w:World) (room:Int) (q:Option Addr) (m d:Nat) (zs:List Int) (hi:IAt w q m zs) (hl:zs.length=m) (hmd:m≤d) (hd:d≤maxLen) (hm:m≤1000) (h1:-9223372036854775808≤room) (h2:room≤9223372036854775807) :
 Calls Try.prog 8 #[.int .i64 room,.slice q m d] w (NewPost14 StoAt w (newS room zs)):=by
 have hmm:=@run_makeMap Try.prog;obtain ⟨R,hR⟩:∃ R:Nat,room.toNat=R:=⟨_,rfl⟩;have hmx:(if room < 0 then (0:Int) else room)=(R:Int):=by split<;>omega
 have HI:=Lib.hid hi;have HL:=Lib.hid hl;obtain ⟨W1,hW1⟩:∃ W1,((w.alloc (.map #[] 0)).alloc (.map #[] 0)).alloc (.cells #[.map (some w.heap.size),.int .i64 0,.int .i64 (R:Int),.map (some (w.heap.size+1)),.int .i64 0,.int .i64 0,.int .i64 0] 53)=W1:=⟨_,rfl⟩
 have HJ:Hid (NewJ w W1 (w.heap.size+1+1) w.heap.size (w.heap.size+1) room zs 0):=by
  have b1:Below w.heap.size w (w.alloc (.map #[] 0)):=(Below.refl _ _).alloc (Nat.le_refl _) _;have b2:Below w.heap.size w ((w.alloc (.map #[] 0)).alloc (.map #[] 0)):=b1.alloc b1.size _;have b3:Below w.heap.size w W1:=by rw [← hW1];exact b2.alloc b2.size _
  have hb:=Blk.new ((w.alloc (.map #[] 0)).alloc (.map #[] 0)) 53 #[.map (some w.heap.size),.int .i64 0,.int .i64 (R:Int),.map (some (w.heap.size+1)),.int .i64 0,.int .i64 0,.int .i64 0];have e:((w.alloc (.map #[] 0)).alloc (.map #[] 0)).heap.size=w.heap.size+1+1:=by simp
  have e1:(w.alloc (.map #[] 0)).heap.size=w.heap.size+1:=by simp
  rw [e,hW1] at hb;have m1:=(mapK_made intK w).kept ((Kept.refl noneB _).alloc (.map #[] 0)) (fun h => h)
  have m2:=mapK_made intK (w.alloc (.map #[] 0));rw [e1] at m2;refine Lib.hid ⟨b3,⟨?_,?_,?_,fun i hi => ?_,fun i j b hi => ?_,?_,by omega⟩,by omega,by omega,by omega⟩
  ·rw [← hR] at hb
   exact hb
  ·have e:runsV (newS room (zs.take 0)) (fun _ => .slice none 0 0)=fun _ => none:=by
    funext y
    exact runsV_no (by unfold hasS newS;simp)
   rw [e,← hW1];exact m1.kept ((Kept.refl noneB _).alloc _) (fun h => h)
  ·have e:failsV (newS room (zs.take 0)).fails=fun _ => none:=by
    funext y
    unfold failsV newS;simp
   rw [e,← hW1];exact m2.kept ((Kept.refl noneB _).alloc _) (fun h => h)
  ·unfold hasS newS at hi
   simp at hi
  ·unfold hasS newS at hi
   simp at hi
  ·show room.toNat≤_
   omega
 clear hi hl hmd hd hR
 go_enter Try.func8,Try.ntmps8
 go_upto_region 2 with fail
 clear hW1 hmx hmm
 go_wp2_with fail
 go_loopw [7,16] (fun _ i wr => ∃ (k:Nat),k≤m∧i=.int .i64 (k:Int)∧Hid (NewJ w wr (w.heap.size+1+1) w.heap.size (w.heap.size+1) room zs k)) (fun _ i _ => m - (RowKit.intOf i).toNat)
 case atStart => exact ⟨0,Nat.zero_le _,rfl,HJ⟩
 case round =>
  obtain ⟨k,hk,rfl,hJ⟩:=hrel;clear HJ
  by_cases hlt:k < m
  ·have hltz:(k:Int) < (m:Int):=by omega
   obtain ⟨b,o,rfl,hbw,hcell⟩:=(HI.out.kept (Kept.of_below hJ.out.bel noneB) (fun _ _ _ h => h)) (by omega)
   have hx:=hcell k hlt;obtain ⟨x,hxx⟩:∃ x,zs.getD k 0=x:=⟨_,rfl⟩;rw [hxx] at hx;have HX:=Lib.hid hxx;have c3:=hJ.out.at_.obj.cell 3;simp only [List.getElem?_toArray,List.getElem?_cons_zero,List.getElem?_cons_succ] at c3;clear hcell hbw hxx
   go_upto_region 5 with fail
   go_wp2_with (at_mapUpdate;refine wpList_putK (K:=intK) rfl (.tmp 23) (.tmp 24) (.tmp 25) rfl Try.underlying51 Try.underlying3 (w.heap.size+1) hJ.out.at_.fails rfl x rfl (.agg #[]) rfl ?_)
   intro w7 hm7 hk7 hs7
   have HN:Hid (NewJ w w7 (w.heap.size+1+1) w.heap.size (w.heap.size+1) room zs (k+1)):=by
    refine Lib.hid ⟨hJ.out.bel.trans (hk7.out.below hJ.out.bel.size (fun b hb => by rw [show b=_ from hb];omega)),?_,hJ.out.new⟩
    have h2:=hJ.out.at_.fails_ hk7.out (fs:=zs.take (k+1)) (by rw [failsV_succ (by rw [HL.out];exact hlt) HX.out];exact hm7.out)
    exact h2
   clear hm7 hk7 hs7 hx c3 hJ
   go_wp2
   go_roundw
   case rel => exact ⟨k+1,by omega,by go_num,HN⟩
   case measure => simp [RowKit.intOf];omega
  ·obtain rfl:k=m:=by omega
   have hks:¬ ((k:Int) < (k:Int)):=by omega
   go_wp2
   go_ret
   have h3:=hJ.out.at_;rw [show zs.take k=zs by rw [← HL.out,List.take_length]] at h3
   refine ⟨w.heap.size+1+1,_,rfl,⟨_,_,_,h3,fun b => Iff.rfl⟩,fun b hb => ?_,hJ.out.bel⟩
   rcases hb with hb | hb | hb | ⟨i,hi,hb⟩
   ·omega
   ·omega
   ·omega
   ·cases hb
end Go.Proofs.Ytfpoipamioaklaa.Sto
end
section
namespace Go.Proofs.Ytfpoipamioaklaa.Sto
open Go.ChangeShapes Go.WideShapes Go.ChangeAt Go.RowKit Base Byt Txt Bk Mk Block Go.Lib
set_option linter.unusedVariables false
set_option maxRecDepth 100000
def CloneP (w:World) (n:Nat) (bs:List UInt8) (e:Ending) (w':World):Prop:=∃ v,e=.returned v∧OwnB w' w.heap.size v n bs∧Kept noneB w w'
theorem eql_nil_slice (w:World) (p:Option Addr) (n c:Nat):(binOp .eql 32 (.slice p n c) (.slice none 0 0)).run Try.prog w=.ok (.bool p.isNone) w:=run_eql_slice_nil w _ _ p n c 0 0 Try.underlying32
set_option maxHeartbeats 8000000 in
theorem clone_any (w:World) (p:Option Addr) (n c:Nat) (bs:List UInt8) (hb:BAt w p n bs) (hl:bs.length=n) (hn:n≤1000000):Calls Try.prog 21 #[.slice p n c] w (CloneP w n bs):=by
 cases p with
 | none =>
   have h0:n=0:=by
    rcases Nat.eq_zero_or_pos n with h0 | h0
    ·exact h0
    ·obtain ⟨_,_,he,_⟩:=hb h0
     cases he
   subst h0;obtain rfl:bs=[]:=List.eq_nil_of_length_eq_zero hl;have qm:=fun w => eql_nil_slice w none 0 c
   clear hb hl
   go_enter Try.func21,Try.ntmps21
   go_wp2
   go_ret
   exact ⟨_,rfl,World.ownsRow_nil _ _ 5 1,Kept.refl _ _⟩
 | some ad =>
   have HO1:Hid (OwnB (w.alloc (.cells #[] 5)) w.heap.size (.slice (some ⟨w.heap.size,0,none⟩) 0 0) 0 []):=Lib.hid (World.ownsRow_made w #[] 0 (Nat.le_refl _) (by decide) rfl)
   have HK:Hid (Kept noneB w (w.alloc (.cells #[] 5))):=Lib.hid ((Kept.refl _ _).alloc _);have HB:=Lib.hid (hb.kept HK.out (fun _ _ _ h => h))
   have HL:=Lib.hid hl;have qm:=fun w => eql_nil_slice w (some ad) n c
   clear hb hl
   go_enter Try.func21,Try.ntmps21
   go_wp2_with (at_builtin;refine append_own rfl (.tmp 5) (.tmp 6) rfl w.heap.size _ 0 [] rfl HO1.out (some ad) n c bs rfl HB.out HL.out (by omega) (by simp) ?_)
   intro v3 w3 hown hgrow;have HKB:Hid (Kept noneB w w3):=Lib.hid (HK.out.grown hgrow (by intro k hk;simp [Value.ownBlock] at hk;omega))
   have HO:=Lib.hid hown;clear hown hgrow
   go_wp2
   go_ret
   exact ⟨_,rfl,HO.out,HKB.out⟩
set_option maxHeartbeats 8000000 in
theorem sstRead_any {w:World} {g:Nat} {M:SM} {own:Nat → Prop} (h:StoAt w g M own) (hs:SmallS M) (id at_ nn:Int):Calls Try.prog 12 #[ptrS g,.int .i64 id,.int .i64 at_,.int .i64 nn] w (ReadPost14 w (readS M id at_ nn)):=by
 obtain ⟨A,F,v,h,ho⟩:=h;have c0:=h.obj.cell 0;simp only [List.getElem?_toArray,List.getElem?_cons_zero] at c0;have lk:=h.look_ok id;have HH:=Lib.hid h;obtain ⟨T,hT⟩:∃ T,hasS M id=T:=⟨_,rfl⟩
 cases T with
 | false =>
   rw [runsV_no hT] at lk;have lk2:(Instr.lookup 50 (.map (some A)) (.int .i64 id) true).run Try.prog w=.ok (.tuple #[.slice none 0 0,.bool false]) w:=lk;rw [show readS M id at_ nn=([],14) by unfold readS;rw [if_pos hT]]
   clear lk hT h ho hs
   go_enter Try.func12,Try.ntmps12
   go_wp2
   go_ret2
   exact ⟨_,rfl,World.ownsRow_nil _ _ 5 1,Kept.refl _ _⟩
 | true =>
   rw [runsV_yes hT] at lk;obtain ⟨p,c,hv,hnc,hcm,hbt,hln,_⟩:=(h.data id hT).slice;rw [hv] at lk;obtain ⟨bs,hbs⟩:∃ bs,runS M id=bs:=⟨_,rfl⟩
   have hbl:bs.length≤1000000:=by
    obtain ⟨k,rfl,hk,_⟩:=has_iff.1 hT;rw [← hbs,runS_some hT];refine hs.each _ ?_
    rw [List.getD,List.getElem?_eq_getElem hk];exact List.getElem_mem hk
   rw [show readS M id at_ nn=if at_ < 0 ∨ nn < 0 ∨ (bs.length:Int) < at_ then ([],1) else ((bs.drop at_.toNat).take nn.toNat,0) by unfold readS;rw [if_neg (by rw [hT];decide),hbs]]
   rw [hbs] at lk hnc hbt;obtain ⟨L,hL⟩:∃ L,bs.length=L:=⟨_,rfl⟩;rw [hL] at lk hnc hbt hbl ⊢;have lk2:(Instr.lookup 50 (.map (some A)) (.int .i64 id) true).run Try.prog w=.ok (.tuple #[.slice p L c,.bool true]) w:=lk;have HL:=Lib.hid hL;have HB:=Lib.hid hbt;clear lk hT hv hbs hL hbt h ho hs HH hln
   by_cases hA:at_ < 0
   ·rw [if_pos (by omega)]
    go_enter Try.func12,Try.ntmps12
    go_wp2
    go_ret2
    exact ⟨_,rfl,World.ownsRow_nil _ _ 5 1,Kept.refl _ _⟩
   by_cases hN:nn < 0
   ·rw [if_pos (by omega)]
    go_enter Try.func12,Try.ntmps12
    go_wp2
    go_ret2
    exact ⟨_,rfl,World.ownsRow_nil _ _ 5 1,Kept.refl _ _⟩
   by_cases hC:(L:Int) < at_
   ·rw [if_pos (by omega)]
    go_enter Try.func12,Try.ntmps12
    go_wp2
    go_ret2
    exact ⟨_,rfl,World.ownsRow_nil _ _ 5 1,Kept.refl _ _⟩
   rw [if_neg (by omega)]
   obtain ⟨a,rfl⟩:∃ a:Nat,at_=(a:Int):=⟨at_.toNat,by omega⟩
   obtain ⟨N,rfl⟩:∃ N:Nat,nn=(N:Int):=⟨nn.toNat,by omega⟩
   have haZ:a≤L:=by omega
   obtain ⟨K,hK⟩:∃ K,min N (L - a)=K:=⟨_,rfl⟩;have hmin:(if L - a < N then ((L - a:Nat):Int) else (N:Int))=(K:Int):=by split<;>omega
   have hac:(a:Int)≤(c:Int):=by omega
   have hLc:(L:Int)≤(c:Int):=by omega
   have hKD:(K:Int)≤((L - a:Nat):Int):=by omega
   have hKC:(K:Int)≤((c - a:Nat):Int):=by omega
   have EX:Hid ((bs.drop ((a:Int)).toNat).take ((N:Int)).toNat=(bs.drop a).take K∧((bs.drop a).take K).length=K):=Lib.hid (by
    have e:(bs.drop a).length=L - a:=by rw [List.length_drop,HL.out]
    refine ⟨?_,by rw [List.length_take];omega⟩
    show (bs.drop a).take N=_
    exact List.take_eq_take_iff.2 (by omega))
   rw [EX.out.1]
   have hcl:∀ P' C',P'=(if c=a then p else p.map (·.add a)) → Calls Try.prog 21 #[.slice P' K C'] w (CloneP w K ((bs.drop a).take K)):=fun P' C' hP => by
    subst hP;exact clone_any w _ K C' _ ((HB.out.drop haZ (by omega) HL.out).take (by omega)) EX.out.2 (by omega)
   have HCL:=Lib.hid hcl;clear hcl hK
   cases p with
   | none =>
     have HC:=Lib.hid (HCL.out none (c - a) (by split<;>rfl))
     clear HCL
     go_enter Try.func12,Try.ntmps12
     go_wp2_with fail
     refine HC.out.mono ?_
     rintro e w6 ⟨v6,rfl,ho,hk⟩;have HO:=Lib.hid ho;have HK:=Lib.hid hk;clear ho hk
     go_wp2
     go_ret2
     exact ⟨_,rfl,by rw [EX.out.2];exact HO.out,HK.out⟩
   | some ax =>
     by_cases hca:c=a
     ·have HC:=Lib.hid (HCL.out (some ax) 0 (by rw [if_pos hca]))
      clear HCL
      go_enter Try.func12,Try.ntmps12
      go_wp2_with fail
      refine HC.out.mono ?_
      rintro e w6 ⟨v6,rfl,ho,hk⟩;have HO:=Lib.hid ho;have HK:=Lib.hid hk;clear ho hk
      go_wp2
      go_ret2
      exact ⟨_,rfl,by rw [EX.out.2];exact HO.out,HK.out⟩
     ·have HC:=Lib.hid (HCL.out (some (ax.add a)) (c - a) (by rw [if_neg hca];rfl))
      clear HCL
      go_enter Try.func12,Try.ntmps12
      go_wp2_with fail
      refine HC.out.mono ?_
      rintro e w6 ⟨v6,rfl,ho,hk⟩;have HO:=Lib.hid ho;have HK:=Lib.hid hk;clear ho hk
      go_wp2
      go_ret2
      exact ⟨_,rfl,by rw [EX.out.2];exact HO.out,HK.out⟩
end Go.Proofs.Ytfpoipamioaklaa.Sto
end
section
namespace Go.Proofs.Ytfpoipamioaklaa.Sto
open Go.ChangeShapes Go.WideShapes Go.ChangeAt Go.RowKit Base Byt Txt Bk Mk Block Go.Lib
set_option linter.unusedVariables false
set_option maxRecDepth 100000
def FailP (w:World) (g:Nat) (M:SM) (A F:Nat) (v:Int → Value) (e:Ending) (w':World):Prop:=
 e=.returned (.bool (decide ((M.writes:Int) ∈ M.fails)))∧SstD w' g { M with writes:=M.writes+1 } A F v∧Kept (oneB g) w w'
set_option maxHeartbeats 8000000 in
theorem sstFail_any {w:World} {g:Nat} {M:SM} {A F:Nat} {v:Int → Value} (h:SstD w g M A F v) (hs:SmallS M):Calls Try.prog 20 #[ptrS g] w (FailP w g M A F v):=by
 obtain ⟨T,hT⟩:∃ T:Bool,decide ((M.writes:Int) ∈ M.fails)=T:=⟨_,rfl⟩;obtain ⟨V,hV⟩:∃ V,M.writes=V:=⟨_,rfl⟩
 have hlk:∀ w',Kept noneB w w' → (Instr.lookup 51 (.map (some F)) (.int .i64 (V:Int)) true).run Try.prog w'=.ok (.tuple #[.agg #[],.bool T]) w':=fun w' hk => by
  have h2:=(h.none_ hk).look_fails (V:Int);have e1:(failsV M.fails (V:Int)).getD (.agg #[])=.agg #[]:=by unfold failsV;split<;>rfl
  have e2:(failsV M.fails (V:Int)).isSome=T:=by
   rw [← hT,hV];unfold failsV
   by_cases hh:(V:Int) ∈ M.fails
   ·rw [if_pos hh,decide_eq_true hh];rfl
   ·rw [if_neg hh,decide_eq_false hh];rfl
  rw [e1,e2] at h2;exact h2
 have c3:=h.obj.cell 3;have c4:=h.obj.cell 4;simp only [List.getElem?_toArray,List.getElem?_cons_zero,List.getElem?_cons_succ] at c3 c4;rw [hV] at c4;have hvb:=hs.writes;rw [hV] at hvb;have hwn:IntKind.i64.wrap ((V:Int)+1)=((V+1:Nat):Int):=by rw [IntKind.wrap_i64];omega
 have hkA:Kept noneB w (w.alloc (.cells #[] 54)):=(Kept.refl _ _).alloc _;have lk0:=hlk w (Kept.refl _ _);have lk1:=hlk w.drew (Kept.refl _ _).drew;have lk2:=hlk _ hkA;have lk3:=hlk _ hkA.drew;have HH:=Lib.hid h;have HT:=Lib.hid (And.intro hT hV);have HA:Hid (Kept noneB w (w.alloc (.cells #[] 54))):=Lib.hid hkA;have hb1:=(h.none_ hkA).obj;have d4:=hb1.cell 4;have f4:=hb1.frozen 4;simp only [List.getElem?_toArray,List.getElem?_cons_zero,List.getElem?_cons_succ] at d4;rw [hV] at d4;have d3:=hb1.cell 3;simp only [List.getElem?_toArray,List.getElem?_cons_zero,List.getElem?_cons_succ] at d3
 have e3:(w.alloc (.cells #[] 54)).cell? ⟨g,3,none⟩=some (.map (some F)):=d3;have e4:(w.alloc (.cells #[] 54)).cell? ⟨g,4,none⟩=some (.int .i64 (V:Int)):=d4;have g4:(w.alloc (.cells #[] 54)).frozen? ⟨g,4,none⟩=false:=f4;clear d3 d4 f4;have HB1:=Lib.hid hb1;clear h hs hlk hT hV hkA hb1
 go_enter Try.func20,Try.ntmps20
 go_upto_region 1 with fail
 go_region
 all_goals (
  clear lk0 lk1 lk2 lk3 c3 c4 e3
  go_wp2
  go_ret
  have hT:=HT.out.1;have hV:=HT.out.2;subst hV;have h1:=HH.out.none_ HA.out;have hb:=Blk.set HB1.out 4 (.int .i64 ((M.writes:Int)+1)) (by simp)
  have hk:Kept (oneB g) (w.alloc (.cells #[] 54)) ((w.alloc (.cells #[] 54)).setCell ⟨g,4,none⟩ (.int .i64 ((M.writes:Int)+1))):=Kept.setCell (Kept.refl (oneB g) _) (a:=⟨g,4,none⟩) (.inr rfl) _;have h2:=SstD.obj_ (M':={ M with writes:=M.writes+1 }) h1 hk hb rfl rfl rfl
  exact ⟨by rw [hT];rfl,h2.none_ (Kept.refl _ _).drew,((HA.out.of_none (oneB g)).trans hk).drew⟩)
end Go.Proofs.Ytfpoipamioaklaa.Sto
end
section
namespace Go.Proofs.Ytfpoipamioaklaa.Sto
open Go.ChangeShapes Go.WideShapes Go.ChangeAt Go.RowKit Base Byt Txt Bk Mk Block Go.Lib
set_option linter.unusedVariables false
set_option maxRecDepth 100000
section
variable {w w':World} {g A F:Nat} {M M':SM} {v:Int → Value} {own:Nat → Prop}
theorem SstD.put_ {id:Int} {u:Value} {bs:List UInt8} (h:SstD w g { M with writes:=M.writes+1 } A F v) (hh:hasS M id=true) (hk:Kept (fun b => b=g ∨ b=A ∨ (v id).ownBlock=some b) w w') (ho:Blk w' g 53 #[.map (some A),.int .i64 ((putS14 M id bs).runs.length:Nat),.int .i64 ((putS14 M id bs).room:Nat),.map (some F),.int .i64 ((putS14 M id bs).writes:Nat),.int .i64 (usedS (putS14 M id bs):Nat),.int .i64 ((putS14 M id bs).peak:Nat)])
 (hm:MapK intK w' A (fun y => if y=id then some u else runsV M v y)) (hu:OwnB w' 0 u (runS M id++bs).length (runS M id++bs)) (hn:NewOr w (v id) u):SstD w' g (putS14 M id bs) A F (fun y => if y=id then u else v y) where
 obj:=ho
 runs:=by
  have e:runsV (putS14 M id bs) (fun y => if y=id then u else v y)=fun y => if y=id then some u else runsV M v y:=by
   funext y
   unfold runsV;rw [has_put hh]
   by_cases hy:y=id
   ·simp [hy,hh]
   ·simp [hy]
  rw [e];exact hm
 fails:=h.fails.kept hk (fun e => by rcases e with e | e | e;exact h.ne_map.2 e.symm;exact h.two e.symm;exact (h.ne_data (i:=id) hh e).2.2 rfl)
 data:=fun i hi => by
  rw [has_put hh] at hi;rw [run_put hh]
  by_cases hy:i=id
  ·rw [if_pos hy,if_pos hy]
   exact hu
  ·rw [if_neg hy,if_neg hy]
   exact (h.data i hi).kept hk (fun b hb e => by rcases e with e | e | e;exact (h.ne_data (i:=i) hi hb).1 e;exact (h.ne_data (i:=i) hi hb).2.1 e;exact hy (h.apart i id b hi hh hb e))
 apart:=fun i j b hi hj hbi hbj => by
  rw [has_put hh] at hi hj
  by_cases hyi:i=id
  ·by_cases hyj:j=id
   ·rw [hyi,hyj]
   ·rw [if_pos hyi] at hbi
    rw [if_neg hyj] at hbj;rcases hn b hbi with h1 | h1
    ·rw [hyi];exact h.apart id j b hh hj h1 hbj
    ·have:=((h.data j hj).lt b hbj).2;omega
  ·rw [if_neg hyi] at hbi
   by_cases hyj:j=id
   ·rw [if_pos hyj] at hbj
    rcases hn b hbj with h1 | h1
    ·rw [hyj];exact h.apart i id b hi hh hbi h1
    ·have:=((h.data i hi).lt b hbi).2;omega
   ·rw [if_neg hyj] at hbj
    exact h.apart i j b hi hj hbi hbj
 room:=h.room
 two:=h.two
theorem sstOwn_put {id:Int} {u:Value} {bs:List UInt8} (hh:hasS M id=true) (hn:NewOr w (v id) u) {b:Nat} (h:sstOwn (putS14 M id bs) g A F (fun y => if y=id then u else v y) b):sstOwn M g A F v b ∨ w.heap.size≤b:=by
 rcases h with h | h | h | ⟨i,hi,hb⟩
 ·exact .inl (.inl h)
 ·exact .inl (.inr (.inl h))
 ·exact .inl (.inr (.inr (.inl h)))
 ·rw [has_put hh] at hi
  dsimp only at hb
  by_cases hy:i=id
  ·rw [if_pos hy] at hb
   rcases hn b hb with h1 | h1
   ·exact .inl (.inr (.inr (.inr ⟨id,hh,h1⟩)))
   ·exact .inr h1
  ·rw [if_neg hy] at hb
   exact .inl (.inr (.inr (.inr ⟨i,hi,hb⟩)))
end
theorem step_own2 {w:World} {ops:Array Oper} {o:Oper} {a:Act} {K0:Act → World → Prop} {Q:Exit → Act → World → Prop} {E:Prop} (hw:Region.wanted o (yielded ops a.tmps)=true) (s x:Operand)
 (ho:o.op=.call { callee:=.builtin .append,args:=#[s,x],argTypes:=#[32,32] })
 (base:Nat) (v:Value) (n:Nat) (xs:List UInt8) (hs:a.eval s=v) (hown:OwnB w base v n xs)
 (p:Option Addr) (m c:Nat) (bs:List UInt8) (hx:a.eval x=.slice p m c) (hb:BAt w p m bs) (hl:bs.length=m) (hsum:n+m≤140737488351232) (hbase:base≤w.heap.size)
 (h:∀ v' w',OwnB w' base v' (n+m) (xs++bs) → w.grownBy w' v.ownBlock → NewOr w v v' → K0 (a.put o.dst v') w') :
 if Region.wanted o (yielded ops a.tmps)=true then Oper.wp Try.prog o a w K0 Q else E:=by
 obtain ⟨i0,hi,hz0,hz1,hz2⟩:=info_parts infoU8;refine step_bytes hw s x 32 ho base 5 i0 Try.underlying32 hi hz0 hz1 hz2 v n (nums xs) hs hown p m c bs hx hb hl hsum hbase (fun v' w' h1 h2 h3 => h v' w' ?_ h2 h3)
 unfold OwnB;rw [nums_append];exact h1
theorem cutAt3 {α β γ:Type} {T:α → β → γ → Prop} {G:Prop} (H:α → β → γ → Prop) (main:(∀ a b c,H a b c → T a b c) → G) (tail:∀ a b c,H a b c → T a b c):G:=main tail
def PutW (wq:World) (A:Nat) (M:SM) (v:Int → Value) (id:Int) (xs bs:List UInt8) (k:Nat) (w7:World) (p4:Option Addr) (c4:Nat):Prop:=
 ∃ w4,OwnB w4 0 (.slice p4 k c4) k (xs++bs)∧wq.grownBy w4 (v id).ownBlock∧NewOr wq (v id) (.slice p4 k c4)∧MapK intK w7 A (fun y => if y=id then some (.slice p4 k c4) else runsV M v y)∧Kept (oneB A) w4 w7
set_option maxHeartbeats 8000000 in
theorem sstAppend_any {w:World} {g:Nat} {M:SM} {own:Nat → Prop} (h:StoAt w g M own) (hs:SmallS M) (id:Int) (p:Option Addr) (n c:Nat) (bs:List UInt8) (hb:BAt w p n bs) (hl:bs.length=n) (hn:n≤1000000) (hsep:0 < n → ∀ a,p=some a → ¬ own a.block) :
 Calls Try.prog 10 #[ptrS g,.int .i64 id,.slice p n c] w (ChgPost StoAt w g own (.int .i64 (appendS M id bs).1) (appendS M id bs).2):=by
 obtain ⟨A,F,v,h,ho⟩:=h;have c0:=h.obj.cell 0;simp only [List.getElem?_toArray,List.getElem?_cons_zero] at c0;have lk:=h.look_ok id;have HH:=Lib.hid h;have HO:=Lib.hid ho;obtain ⟨T,hT⟩:∃ T,hasS M id=T:=⟨_,rfl⟩;have HT:=Lib.hid hT;have HS:=Lib.hid hs;have HL:=Lib.hid hl;have HB:=Lib.hid hb;have HSEP:=Lib.hid hsep;have HF:=Lib.hid (sstFail_any h hs);clear h ho hs hl hb hsep
 cases T with
 | false =>
   rw [runsV_no hT] at lk;have lk2:(Instr.lookup 50 (.map (some A)) (.int .i64 id) true).run Try.prog w=.ok (.tuple #[.slice none 0 0,.bool false]) w:=lk;rw [appendS_none hT];clear lk hT
   go_enter Try.func10,Try.ntmps10
   go_wp2
   go_ret
   exact ⟨_,rfl,⟨A,F,v,HH.out,HO.out⟩,fun b hb => .inl hb,Kept.refl _ _⟩
 | true =>
   rw [runsV_yes hT] at lk;obtain ⟨px,cx,hv,hxc,hxm,-⟩:=(HH.out.data id hT).slice;obtain ⟨xs,hxs⟩:∃ xs,runS M id=xs:=⟨_,rfl⟩
   have hxl:xs.length≤1000000:=by
    obtain ⟨k,rfl,hk,_⟩:=has_iff.1 hT;rw [← hxs,runS_some hT];refine HS.out.each _ ?_
    rw [List.getD,List.getElem?_eq_getElem hk];exact List.getElem_mem hk
   obtain ⟨L,hL⟩:∃ L,xs.length=L:=⟨_,rfl⟩;rw [hxs,hL] at hv hxc;rw [hL] at hxl;rw [hv] at lk;have lk2:(Instr.lookup 50 (.map (some A)) (.int .i64 id) true).run Try.prog w=.ok (.tuple #[.slice px L cx,.bool true]) w:=lk;have HV:=Lib.hid (And.intro hv (And.intro hxs hL));obtain ⟨E,hE⟩:∃ E:Bool,decide ((M.writes:Int) ∈ M.fails)=E:=⟨_,rfl⟩;have HE:=Lib.hid hE;have HF2:=HF.out;unfold FailP at HF2;rw [hE] at HF2;have HF3:=Lib.hid HF2;clear lk hT hv hxs hL hE HF2 HF hxc hxm
   go_enter Try.func10,Try.ntmps10
   go_wp2_with fail
   refine HF3.out.mono ?_
   rintro e w5 ⟨rfl,hD5,hK5⟩;clear HF3 c0 lk2;have HD5:=Lib.hid hD5;have HK5:=Lib.hid hK5;clear hD5 hK5
   cases E with
   | true =>
     go_wp2
     go_ret
     rw [appendS_io HT.out (of_decide_eq_true HE.out)];exact ⟨_,rfl,⟨A,F,v,HD5.out,HO.out⟩,fun b hb => .inl hb,HK5.out.mono (fun b hb => (HO.out b).2 (.inl hb))⟩
   | false =>
     have c2:=HD5.out.obj.cell 2;have c5:=HD5.out.obj.cell 5;simp only [List.getElem?_toArray,List.getElem?_cons_zero,List.getElem?_cons_succ] at c2 c5;obtain ⟨R,hR⟩:∃ R,M.room=R:=⟨_,rfl⟩;obtain ⟨U,hU⟩:∃ U,usedS M=U:=⟨_,rfl⟩;have hub:=HS.out.used;have hrb:=HH.out.room;have hub2:usedS { M with writes:=M.writes+1 }=U:=hU
     rw [hR] at c2 hrb;rw [hU] at hub;rw [hub2] at c5;have HRU:=Lib.hid (And.intro hR hU);have hws:IntKind.i64.wrap ((R:Int) - (U:Int))=(R:Int) - (U:Int):=by rw [IntKind.wrap_i64];omega
     by_cases hF:(R:Int) - (U:Int) < (n:Int)
     ·have EA:=Lib.hid (appendS_full HT.out (of_decide_eq_false HE.out) (show M.room < usedS M+bs.length by rw [hR,hU,HL.out];omega))
      clear hub hrb hub2 hR hU
      go_upto_region 8 with fail
      go_quiet (fail)
      go_wp2
      go_ret
      rw [EA.out];exact ⟨_,rfl,⟨A,F,v,HD5.out.none_ ((Kept.refl _ _).drewN _),HO.out⟩,fun b hb => .inl hb,(HK5.out.mono (fun b hb => (HO.out b).2 (.inl hb))).drewN _⟩
     ·have EA:=Lib.hid (appendS_ok HT.out (of_decide_eq_false HE.out) (show ¬ M.room < usedS M+bs.length by rw [hR,hU,HL.out];omega))
      clear hub2 hR hU
      go_upto_region 8 with fail
      go_quiet (fail)
      clear c2 c5 hws;obtain ⟨wq,hwq⟩:∃ wq,w5.drewN nq=wq:=⟨_,rfl⟩;rw [hwq];have hkq:Kept noneB w5 wq:=by rw [← hwq];exact (Kept.refl _ _).drewN _
      have hdq:=HD5.out.none_ hkq;have HKQ:Hid (Kept (oneB g) w wq):=Lib.hid (HK5.out.then hkq (fun _ h => h.elim))
      have c0:=hdq.obj.cell 0;simp only [List.getElem?_toArray,List.getElem?_cons_zero] at c0
      have lk0:(Instr.lookup 50 (.map (some A)) (.int .i64 id) false).run Try.prog wq.drew=.ok (.slice px L cx) wq.drew:=by
       have h2:=(hdq.none_ (Kept.refl _ _).drew).look id;rw [runsV_yes (M:={ M with writes:=M.writes+1 }) HT.out,HV.out.1] at h2
       exact h2
      have lk1:(Instr.lookup 50 (.map (some A)) (.int .i64 id) false).run Try.prog wq=.ok (.slice px L cx) wq:=by
       have h2:=hdq.look id;rw [runsV_yes (M:={ M with writes:=M.writes+1 }) HT.out,HV.out.1] at h2
       exact h2
      have HDQ:=Lib.hid hdq
      have HOX:Hid (OwnB wq.drew 0 (.slice px L cx) L xs):=Lib.hid (by
       have h2:=(hdq.data id HT.out).kept (Kept.refl noneB wq).drew (fun _ _ h => h)
       have e:runS { M with writes:=M.writes+1 } id=xs:=HV.out.2.1
       rw [e,HV.out.1,HV.out.2.2] at h2
       exact h2)
      have HBQ:Hid (BAt wq.drew p n bs):=Lib.hid ((HB.out.kept HKQ.out (fun h0 a ha e => HSEP.out h0 a ha ((HO.out _).2 (.inl e)))).kept (Kept.refl noneB wq).drew (fun _ _ _ h => h))
      clear hwq hkq hdq
      go_upto_region 10 with fail
      clear hF;apply cutAt3 (fun w7 p4 c4 => Hid (PutW wq.drew A M v id xs bs (L+n) w7 p4 c4))
      case main =>
       intro TAIL
       go_region_law (first
        | (refine step_own2 (by kernel_rfl) (.tmp 46) (.tmp 47) (by rfl) 0 _ L xs (by rfl) HOX.out p n c bs (by rfl) HBQ.out HL.out (by omega) (by simp) ?_
           intro v4 w4 hown hgrow hnew;obtain ⟨p4,c4,rfl,_,_,_,_,_⟩:=OwnB.slice hown
           have hkw:Kept (fun b => (v id).ownBlock=some b) wq w4:=by
            refine (Kept.refl _ wq).drew.grown hgrow (fun k hk => .inr ?_)
            rw [HV.out.1];exact hk
           have hmm:MapK intK w4 A (runsV M v):=HDQ.out.runs.kept hkw (fun e => (HDQ.out.ne_data (i:=id) HT.out e).2.1 rfl)
           have a0:w4.cell? ⟨g,0,none⟩=some (.map (some A)):=by
            have h2:=(HDQ.out.obj.keptS hkw (fun e => (HDQ.out.ne_data (i:=id) HT.out e).1 rfl)).cell 0
            exact h2
           obtain ⟨w7,hrun,hm7,hk7,hs7⟩:=MapK.put (K:=intK) hmm Try.underlying50 Try.underlying3 id (.slice p4 (L+n) c4);have run7:(Instr.mapUpdate 50 (.map (some A)) (.int .i64 id) (.slice p4 (L+n) c4)).run Try.prog w4=.ok () w7:=hrun;have HPW:Hid (PutW wq.drew A M v id xs bs (L+n) w7 p4 c4):=Lib.hid ⟨w4,hown,by rw [HV.out.1];exact hgrow,by rw [HV.out.1];exact hnew,hm7,hk7⟩
           clear hown hgrow hnew hkw hmm hrun hm7 hk7 hs7)
        )
       all_goals exact TAIL w7 p4 c4 HPW
      case tail =>
       intro w7 p4 c4 HPW;obtain ⟨w4,hown,hgrow,hnew,hm7,hk7⟩:=HPW.out;have hdr:=HDQ.out.none_ (Kept.refl noneB wq).drew;have hkw:Kept (fun b => (v id).ownBlock=some b) wq.drew w4:=(Kept.refl _ wq.drew).grown hgrow (fun k hk => .inr hk)
       have hkp:Kept (fun b => b=g ∨ b=A ∨ (v id).ownBlock=some b) wq.drew w7:=(hkw.mono (fun b hb => .inr (.inr hb))).trans (hk7.mono (fun b hb => .inr (.inl hb)))
       have hb7:=(hdr.obj.keptS hkw (fun e => (hdr.ne_data (i:=id) HT.out e).1 rfl)).keptS hk7 (fun e => hdr.ne_map.1 e)
       obtain ⟨P,hP⟩:∃ P,M.peak=P:=⟨_,rfl⟩;obtain ⟨V,hVV⟩:∃ V,U+n=V:=⟨_,rfl⟩;obtain ⟨X,hX⟩:∃ X,max P V=X:=⟨_,rfl⟩;have hpb:P≤1000000000:=by rw [← hP];exact HS.out.peak
       have e5:=hb7.cell 5;have f5:=hb7.frozen 5;have hb8:=hb7.set 5 (.int .i64 (V:Int)) (by simp)
       have e6:=hb8.cell 6;have e5':=hb8.cell 5;have f6:=hb8.frozen 6;simp only [List.getElem?_toArray,List.getElem?_cons_zero,List.getElem?_cons_succ] at e5;simp only [List.set_toArray,List.set_cons_succ,List.set_cons_zero,List.getElem?_toArray,List.getElem?_cons_zero,List.getElem?_cons_succ] at e6 e5';rw [show usedS { M with writes:=M.writes+1 }=U from HRU.out.2] at e5
       rw [show SM.peak { M with writes:=M.writes+1 }=P from hP] at e6
       have hun:(U:Int)+(n:Int)=(V:Int):=by omega
       have hvb:V≤1001000000:=by omega
       have hmax:(if P < V then (V:Int) else (P:Int))=(X:Int):=by split<;>omega
       obtain ⟨w8,hw8⟩:∃ w8,w7.setCell ⟨g,5,none⟩ (.int .i64 (V:Int))=w8:=⟨_,rfl⟩;rw [hw8] at hb8 e6 e5' f6;have HHW8:=Lib.hid hw8;have HB8:=Lib.hid hb8;have HKP:=Lib.hid hkp;have HX:=Lib.hid (And.intro hP (And.intro hVV hX));have HDR:=Lib.hid hdr;clear hown hgrow hnew hm7 hk7 hkw hkp hb7 hb8 hdr hP hX hVV c0 lk0 lk1 hpb
       go_upto_region 12 with fail
       clear hw8 e5 f5 hun
       go_region
       all_goals (
        clear e6 e5' f6 hmax
        go_wp2
        go_ret
        rw [EA.out];obtain ⟨w4,hown,hgrow,hnew,hm7,hk7⟩:=HPW.out;obtain ⟨w9,hw9⟩:∃ w9,w8.setCell ⟨g,6,none⟩ (.int .i64 (X:Int))=w9:=⟨_,rfl⟩;have hb9:=HB8.out.set 6 (.int .i64 (X:Int)) (by simp)
        have hk9:Kept (oneB g) w7 w9:=by
         rw [← hw9,← HHW8.out];exact Kept.setCell (Kept.setCell (Kept.refl (oneB g) w7) (a:=⟨g,5,none⟩) (.inr rfl) _) (a:=⟨g,6,none⟩) (.inr rfl) _
        have hk49:Kept (fun b => b=g ∨ b=A) w4 w9:=(hk7.mono (fun b hb => .inr hb)).trans (hk9.mono (fun b hb => .inl hb))
        have hkq9:Kept (fun b => b=g ∨ b=A ∨ (v id).ownBlock=some b) wq.drew w9:=HKP.out.trans (hk9.mono (fun b hb => .inl hb))
        rw [hw9] at hb9 ⊢
        have hD:=HDR.out.put_ HT.out hkq9 (bs:=bs) (by
         have e1:(putS14 M id bs).runs.length=M.runs.length:=by unfold putS14;simp
         have e2:(putS14 M id bs).room=M.room:=rfl;have e3:(putS14 M id bs).writes=M.writes+1:=rfl;rw [e1,e2,e3,used_put HT.out,peak_put HT.out,HRU.out.2,HL.out,HX.out.1,HX.out.2.1,HX.out.2.2];exact hb9) (hm7.kept hk9 (fun e => HDR.out.ne_map.1 (show A=g from e).symm)) (by
         rw [HV.out.2.1,List.length_append,HV.out.2.2,HL.out]
         exact hown.kept hk49 (fun b hb e => by
          rcases hnew b hb with h1 | h1
          ·rcases e with e | e
           ·exact (HDR.out.ne_data (i:=id) HT.out h1).1 e
           ·exact (HDR.out.ne_data (i:=id) HT.out h1).2.1 e
          ·rcases e with e | e
           ·have:=HDR.out.obj.lt;omega
           ·have:=map_lt HDR.out.runs;omega)) hnew
        have hkf:Kept own w w9:=(HKQ.out.mono (fun b hb => (HO.out b).2 (.inl hb))).drew.then hkq9 (fun b hb => .inr ((HO.out b).2 (by
         rcases hb with hb | hb | hb
         ·exact .inl hb
         ·exact .inr (.inl hb)
         ·exact .inr (.inr (.inr ⟨id,HT.out,hb⟩)))))
        refine ⟨_,rfl,⟨A,F,_,hD.none_ (Kept.refl _ _).drew,fun b => Iff.rfl⟩,fun b hb => ?_,hkf.drew⟩
        rcases sstOwn_put HT.out hnew hb with h1 | h1
        ·exact .inl ((HO.out b).2 h1)
        ·exact .inr (Nat.le_trans HKQ.out.size h1))
end Go.Proofs.Ytfpoipamioaklaa.Sto
end
section
namespace Go.Proofs.Ytfpoipamioaklaa.Sto
open Go.ChangeShapes Go.WideShapes Go.ChangeAt Go.RowKit Base Byt Txt Bk Mk Block Go.Lib
set_option linter.unusedVariables false
theorem storeC:StoC StoAt where
 lt:=stoAt_lt
 frame:=stoAt_frame
 new:=fun w room q m d zs hi hl hmd hd hm h1 h2 => sstNew_any w room q m d zs hi hl hmd hd hm h1 h2
 create:=fun h hs => sstCreate_any h hs
 append:=fun id p n c bs h hs hb hl hnc hc hn hsep h1 h2 => sstAppend_any h hs id p n c bs hb hl hn hsep
 read:=fun id a n h hs _ _ _ _ _ _ => sstRead_any h hs id a n
 drop:=fun id h hs _ _ => sstDrop_any h hs id
 size:=fun id h hs _ _ => sstSize_any h hs id
 used:=fun h hs => sstUsed_any h hs
 peak:=fun h hs => sstPeak_any h hs
 writes:=fun h hs => sstWrites_any h hs
 create0:=sstCreate0_any
 append0:=sstAppend0_any
 read0:=sstRead0_any
 drop0:=sstDrop0_any
 size0:=sstSize0_any
 used0:=sstUsed0_any
 peak0:=sstPeak0_any
 writes0:=sstWrites0_any
end Go.Proofs.Ytfpoipamioaklaa.Sto
end
section
namespace Go.Proofs.Ytfpoipamioaklaa.Walk
open Go.ChangeShapes Go.WideShapes Go.ChangeAt Go.RowKit Base Byt Txt Bk Block Sto Go.Lib
set_option linter.unusedVariables false
theorem storePlays (room:Int) (q:Option Addr) (m d:Nat) (zs0:List Int) (p:Option Addr) (n c:Nat) (xs:List OP) (w:World) (wf:(Lit.int .i64 room).wf=true) (w1:IsRow .i64 w q m d zs0) (b1:d * 8≤140737488351232)
 (ma:OpsAt w p n xs) (lc:n≤c) (cm:c≤maxLen) (by0:c * 56≤140737488351232) (rm:∀ x ∈ xs,WfO x.m∧RoomO x) :
 Calls Try.prog 3 #[.int .i64 room,.slice q m d,.slice p n c] w fun e w' => e=.returned (.bool true)∧Below w.heap.size w w':=storePlaysC storeC room q m d zs0 p n c xs w wf w1 b1 ma lc cm by0 rm
end Go.Proofs.Ytfpoipamioaklaa.Walk
end
