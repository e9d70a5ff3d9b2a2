/- Texts of this seat, merged: what the proof reaches. -/
import Derived.Test.YthaoohbdjlbaeaaDoorTreeLastX6
import Derived.Test.YthaoohbdjlbaeaaDoorTreeLastX19
import Derived.Deep.DeepCutAuto
import Derived.Carry
import Derived.StillTailTactics
import Derived.Laws.ResultCell
import Derived.Test.YthaoohbdjlbaeaaDoorTreeLastX20
import Derived.Test.YthaoohbdjlbaeaaDoorTreeLastX16
import Derived.Laws.StructEq
namespace Go.Proofs.YthaoohbdjlbaeaaDoor
namespace Base
end Base
namespace Bk
end Bk
namespace Block
end Block
namespace Byt
end Byt
namespace Mem
end Mem
namespace Mk
end Mk
namespace Mp
end Mp
namespace Rec
end Rec
namespace Txt
end Txt
end Go.Proofs.YthaoohbdjlbaeaaDoor
section
namespace Go.Proofs.YthaoohbdjlbaeaaDoor.Tre
open Go.ChangeShapes Go.WideShapes Go.ChangeAt Go.RowKit Base Byt Txt Bk Mk Mem Go.Lib
set_option linter.unusedVariables false
set_option maxRecDepth 100000
theorem kind_ne1 (k:UInt8) (n:UInt8) (z:Int) (hz:(n.toNat:Int)=z):(((k.toNat:Int)) == z)=decide (k=n):=by
 subst hz
 by_cases h:k=n
 ·simp [h]
 ·have:¬ k.toNat=n.toNat:=fun hh => h (UInt8.toNat.inj hh)
  simp only [h,decide_false,beq_eq_false_iff_ne,ne_eq];omega
theorem kind_nq1 (k:UInt8) (n:UInt8) (z:Int) (hz:(n.toNat:Int)=z):(((k.toNat:Int)) != z)=!decide (k=n):=by
 rw [← kind_ne1 k n z hz];rfl
def numsK (f:List UInt8 → Option Nat):List UInt8 → Option Value:=fun x => (f x).map fun n => .int .i64 (n:Int)
structure LayAt (W:World) (g B:Nat) (p:Option Addr) (n c:Nat) (f:List UInt8 → Option Nat):Prop where
 obj:Blk W g 77 #[.slice p n c,.map (some B)]
 map:MapK strK W B (numsK f)
theorem blk_not_map {W:World} {g B:Nat} {t:TypeId} {cs:Array Value} {α:Type} {K:Keying α} {f:α → Option Value} (h:Blk W g t cs) (hm:MapK K W B f):g≠B:=fun e => by
 obtain ⟨es,clock,hb,_⟩:=hm;subst e;have h':W.heap[g]? = some (.cells cs t (0,0)):=h;rw [h'] at hb
 cases hb
theorem LayAt.below {W W':World} {g B:Nat} {p:Option Addr} {n c:Nat} {f:List UInt8 → Option Nat} (h:LayAt W g B p n c f) (hb:Below W.heap.size W W'):LayAt W' g B p n c f:=
 ⟨h.obj.below hb h.obj.lt,h.map.kept (Kept.of_below hb noneB) (fun h => h.elim)⟩
def NewLayPost (w:World) (p:Option Addr) (n c:Nat) (e:Ending) (w':World):Prop:=
 ∃ g B,e=.returned (.pointer (some ⟨g,0,none⟩))∧LayAt w' g B p n c (fun _ => none)∧w.heap.size≤g∧w.heap.size≤B∧Below w.heap.size w w'
set_option maxHeartbeats 1000000 in
theorem newLay_any (p:Option Addr) (n c:Nat) (w:World) :
 Calls Tryd.prog 27 #[.slice p n c] w (NewLayPost w p n c):=by
 have hmm:=@run_makeMap Tryd.prog
 go_enter Tryd.func27,Tryd.ntmps27
 go_wp2
 go_ret
 have hM:=(mapK_made strK w)
 have hb:Blk ((w.alloc (.map #[] 0)).alloc (.cells #[.slice p n c,.map (some w.heap.size)] 77)) (w.heap.size+1) 77 #[.slice p n c,.map (some w.heap.size)]:=by
  have:=Blk.new (w.alloc (.map #[] 0)) 77 #[.slice p n c,.map (some w.heap.size)]
  rwa [World.size_alloc] at this
 refine ⟨w.heap.size+1,w.heap.size,rfl,⟨hb,?_⟩,by omega,Nat.le_refl _,((Below.refl _ _).alloc (Nat.le_refl _) _).alloc (by simp) _⟩
 exact hM.kept ((Kept.refl noneB _).alloc _) (fun h => h.elim)
theorem find_filter {α:Type} (q r:α → Bool) (h:∀ x,r x=true → q x=true) (l:List α):(l.filter q).find? r=l.find? r:=by
 induction l with
 | nil => rfl
 | cons a l ih =>
   rw [List.filter_cons]
   by_cases hq:q a=true
   ·rw [if_pos hq,List.find?_cons,List.find?_cons,ih]
   ·rw [if_neg hq,List.find?_cons,ih]
    have:r a=false:=by
     cases hr:r a with
     | false => rfl
     | true => exact absurd (h a hr) hq
    rw [this]
theorem look_put (S:St) (p x:List UInt8) (n:Nat):look (putS S p n) x=if x=p then some n else look S x:=by
 unfold look putS;rw [List.find?_append]
 by_cases h:x=p
 ·subst h
  rw [if_pos rfl]
  have:(S.filter fun e => !(e.1 == x)).find? (fun e => e.1 == x)=none:=by
   rw [List.find?_eq_none];intro e he;rw [List.mem_filter] at he
   simpa using he.2
  rw [this];simp
 ·rw [if_neg h,find_filter _ _ (fun e he => by
   have:e.1=x:=by simpa using he
   simpa [this] using h)]
  have e1:([(p,n)]:St).find? (fun e => e.1 == x)=none:=by
   have:(p == x)=false:=by simpa using fun e:p=x => h e.symm
   simp [this]
  rw [e1,Option.or_none]
def InS (S:St) (N:Nat):Prop:=∀ e ∈ S,e.2 < N
theorem InS.look {S:St} {N:Nat} (h:InS S N) {x:List UInt8} {n:Nat} (hl:look S x=some n):n < N:=by
 unfold Tre.look at hl;rw [Option.map_eq_some_iff] at hl;obtain ⟨e,he,rfl⟩:=hl;exact h e (List.mem_of_find?_eq_some he)
theorem InS.put {S:St} {N:Nat} (h:InS S N) {p:List UInt8} {n:Nat} (hn:n < N):InS (putS S p n) N:=fun e he => by
 unfold putS at he;rw [List.mem_append,List.mem_filter] at he;rcases he with he | he
 ·exact h e he.1
 ·rw [List.mem_singleton.1 he];exact hn
theorem layD_in {ms:List MemV} {S S':St} {i:Nat} (h:layD ms S i=some S') (hS:InS S ms.length) (hi:i < ms.length):InS S' ms.length:=by
 unfold layD at h
 dsimp only at h
 split at h
 ·split at h
  ·cases h
  ·next n hn =>
   split at h
   ·cases h;exact hS.put (hS.look hn)
   ·cases h
 ·cases h;exact hS.put hi
def LayPost (W:World) (ms:List MemV) (S:St) (i g B:Nat) (p:Option Addr) (n c:Nat) (e:Ending) (w':World):Prop:=
 e=.returned (.bool (layD ms S i).isSome)∧LayAt w' g B p n c (look ((layD ms S i).getD S))∧Kept (oneB B) W w'
theorem numsK_put (S:St) (x:List UInt8) (n:Nat):numsK (look (putS S x n))=fun y => if y=x then some (.int .i64 (n:Int)) else numsK (look S) y:=by
 funext y
 unfold numsK;rw [look_put]
 by_cases h:y=x<;>simp [h]
set_option maxHeartbeats 4000000 in
theorem lay_any (w:World) (g B:Nat) (p:Option Addr) (n c:Nat) (xs:List MP) (S:St) (i:Nat) (W:World) (hM:MemsAt w p n xs) (hb:Below w.heap.size w W) (hB:w.heap.size≤B) (hn:n≤1000000000) (hi:i < n) (hS:InS S n) (hL:LayAt W g B p n c (look S)) :
 Calls Tryd.prog 28 #[.pointer (some ⟨g,0,none⟩),.int .i64 (i:Int)] W (LayPost W (xs.map MP.m) S i g B p n c):=by
 have HL:=Lib.hid hM.1;have hgB:=blk_not_map hL.obj hL.map;have hM1:=hM.below hb;obtain ⟨b1,o1,rfl,hb1,hB1,hc1⟩:=hM1.cells8 hi;have hG0:=getM_map xs i;obtain ⟨y,hy⟩:∃ y,xs.getD i zeroP=y:=⟨_,rfl⟩;rw [hy] at hB1 hc1 hG0;obtain ⟨W1,hW1⟩:∃ W1,W.alloc (.cells y.cs 45)=W1:=⟨_,rfl⟩;have hBW:Below W.heap.size W W1:=by rw [← hW1];exact (Below.refl _ _).alloc (Nat.le_refl _) _
 have hY:Blk W1 W.heap.size 45 y.cs:=by rw [← hW1];exact Blk.new W _ _
 have hL1:=hL.below hBW;have HLA:=Lib.hid hL;have HL1:=Lib.hid hL1;have HGB:=Lib.hid hgB;have HBW:=Lib.hid hBW;have HM1:=Lib.hid (hM1.below hBW);have HS:=Lib.hid hS;have HY:=Lib.hid hY;have HLT:=Lib.hid (And.intro hL.obj.lt hL.map.lt);have k0:=hL.obj.cell 0;have g0:=hL1.obj.cell 0;have g1:=hL1.obj.cell 1;have y0:=hY.cell 0;have y1:=hY.cell 1;have y2:=hY.cell 2;simp only [MP.cs,memC,List.getElem?_toArray,List.getElem?_cons_zero,List.getElem?_cons_succ] at k0 g0 g1 y0 y1 y2;have ek:=kind_ne1 y.m.kind 49 49 rfl;obtain ⟨kn,hkn⟩:∃ k:Int,(y.m.kind.toNat:Int)=k:=⟨_,rfl⟩
 obtain ⟨c0,c1,c2,c3,c4,c5,c6,c7⟩:=hc1;unfold MP.cs memC at hW1;rw [hkn] at hW1 y2 c2 ek;have HG0:=Lib.hid hG0;have hiz:(i:Int) < (n:Int):=by omega
 have hi0:(0:Int)≤(i:Int):=by omega
 clear hM hb hM1 hb1 hB1 hy hBW hY hL hL1 hgB hS hkn hG0
 go_enter Tryd.func28,Tryd.ntmps28
 go_upto_region 2 with fail
 clear c0 c1 c2 c3 c4 c5 c6 c7 hW1
 by_cases h49:y.m.kind=49
 ·rw [decide_eq_true h49] at ek
  have hlk:=HL1.out.map.look_ok (P:=Tryd.prog) Tryd.underlying75 Tryd.underlying9 (z:=.int .i64 0) (fun w => Tryd.zeroValue3 w) y.m.target
  have HLK:Hid (∀ q:Since W1,(Instr.lookup 75 (.map (some B)) (.string (str y.m.target)) true).run Tryd.prog q.w'=.ok (.tuple #[(numsK (look S) y.m.target).getD (.int .i64 0),.bool (numsK (look S) y.m.target).isSome]) q.w'):=Lib.hid (fun q =>
   (HL1.out.map.kept (Kept.of_below q.bel noneB) (fun h => h.elim)).look_ok (P:=Tryd.prog) Tryd.underlying75 Tryd.underlying9 (z:=.int .i64 0) (fun w => Tryd.zeroValue3 w) y.m.target)
  clear hlk;obtain ⟨fo,hfo⟩:∃ fo,look S y.m.target=fo:=⟨_,rfl⟩;have HFO:=Lib.hid hfo;unfold numsK at HLK;rw [hfo] at HLK;have H49:=Lib.hid h49;clear hfo h49
  cases fo with
  | none =>
    have E:Hid (layD (xs.map MP.m) S i=none):=Lib.hid (by
     unfold layD;rw [HG0.out]
     dsimp only
     rw [if_pos H49.out,HFO.out])
    have lk:∀ m,(Instr.lookup 75 (.map (some B)) (.string (str y.m.target)) true).run Tryd.prog (W1.drewN m)=.ok (.tuple #[.int .i64 0,.bool false]) (W1.drewN m):=fun m => HLK.out ⟨W1.drewN m,below_drewN (Below.refl _ _) m⟩
    go_wp2_with fail
    go_quiet (fail)
    go_wp2
    go_ret
    exact ⟨by rw [E.out];rfl,by rw [E.out];exact HL1.out.below (below_drewN (Below.refl _ _) _),(Kept.of_below HBW.out (oneB B)).drewN _⟩
  | some n0 =>
    have hn0:n0 < n:=HS.out.look HFO.out;obtain ⟨b2,o2,hp2,hb2,hB2,hc2⟩:=HM1.out.cells8 hn0;simp only [Option.some.injEq,Addr.mk.injEq,and_true] at hp2;obtain ⟨rfl,rfl⟩:=hp2;have hG2:=getM_map xs n0;obtain ⟨v,hv⟩:∃ v,xs.getD n0 zeroP=v:=⟨_,rfl⟩;rw [hv] at hc2 hG2;have z2:=hc2.2.2.1;have eq8:∀ m,(W1.drewN m).cell? ⟨b1,o1+n0 * 8+2,none⟩=some (.int .u8 (v.m.kind.toNat:Int)):=fun m => z2
    have ev:=kind_nq1 v.m.kind 48 48 rfl;obtain ⟨kv,hkv⟩:∃ k:Int,(v.m.kind.toNat:Int)=k:=⟨_,rfl⟩;rw [hkv] at ev z2 eq8;have HG2:=Lib.hid hG2;have lk:∀ m,(Instr.lookup 75 (.map (some B)) (.string (str y.m.target)) true).run Tryd.prog (W1.drewN m)=.ok (.tuple #[.int .i64 (n0:Int),.bool true]) (W1.drewN m):=fun m => HLK.out ⟨W1.drewN m,below_drewN (Below.refl _ _) m⟩
    have hn0z:(n0:Int) < (n:Int):=by omega
    have hn00:(0:Int)≤(n0:Int):=by omega
    clear hb2 hB2 hc2 hv hkv hG2
    by_cases h48:v.m.kind=48
    ·rw [decide_eq_true h48,Bool.not_true] at ev
     have E:Hid (layD (xs.map MP.m) S i=some (putS S y.m.path n0)):=Lib.hid (by
      unfold layD;rw [HG0.out]
      dsimp only
      rw [if_pos H49.out,HFO.out]
      dsimp only
      rw [HG2.out,if_pos h48])
     clear h48
     go_wp2_with fail
     go_quiet (fail)
     obtain ⟨W2,hW2⟩:∃ W2,W1.drewN nq=W2:=⟨_,rfl⟩;have hL2:=HL1.out.below (below_drewN (Below.refl W1.heap.size W1) nq);have hB2:=HBW.out.trans ((below_drewN (Below.refl W1.heap.size W1) nq).mono HBW.out.size);have hY2:=HY.out.drewN nq;have z2':=eq8 nq;rw [hW2] at hL2 hB2 hY2 z2' ⊢;clear hW2 lk eq8 z2 g0 g1 y0 y1 y2;have g0:=hL2.obj.cell 0;have g1:=hL2.obj.cell 1;have y0:=hY2.cell 0;simp only [MP.cs,memC,List.getElem?_toArray,List.getElem?_cons_zero,List.getElem?_cons_succ] at g0 g1 y0;have HL2:=Lib.hid hL2;have HBW2:=Lib.hid hB2;clear hL2 hB2 hY2
     go_wp2_with fail
     go_still_tail 7,(by kernel_rfl)
     refine wpList_putK (K:=strK) rfl (.tmp 45) (.tmp 47) (.tmp 48) rfl Tryd.underlying75 Tryd.underlying9 B (HL2.out.map.kept (Kept.refl noneB W2).drew id) rfl y.m.path rfl (.int .i64 (n0:Int)) rfl ?_
     intro w5 hm5 hk5 hs5
     have F:Hid (LayAt w5 g B (some ⟨b1,o1,none⟩) n c (look (putS S y.m.path n0))∧Kept (oneB B) W w5):=by
      have hk':Kept (oneB B) W2 w5:=((Kept.refl (oneB B) W2).drew).trans hk5.out;refine Lib.hid ⟨⟨HL2.out.obj.keptS hk' HGB.out,?_⟩,(Kept.of_below HBW2.out (oneB B)).trans hk'⟩;rw [numsK_put];exact hm5.out
     clear hm5 hk5 hs5
     go_wp2
     go_ret
     exact ⟨by rw [E.out];rfl,by rw [E.out];exact F.out.1,F.out.2⟩
    ·rw [decide_eq_false h48,Bool.not_false] at ev
     have E:Hid (layD (xs.map MP.m) S i=none):=Lib.hid (by
      unfold layD;rw [HG0.out]
      dsimp only
      rw [if_pos H49.out,HFO.out]
      dsimp only
      rw [HG2.out,if_neg h48])
     clear h48
     go_wp2_with fail
     go_quiet (fail)
     go_wp2
     go_ret
     exact ⟨by rw [E.out];rfl,by rw [E.out];exact HL1.out.below (below_drewN (Below.refl _ _) _),(Kept.of_below HBW.out (oneB B)).drewN _⟩
 ·rw [decide_eq_false h49] at ek
  have E:Hid (layD (xs.map MP.m) S i=some (putS S y.m.path i)):=Lib.hid (by
   unfold layD;rw [HG0.out]
   dsimp only
   rw [if_neg h49])
  clear h49
  go_wp2_with fail
  go_still_tail 7,(by kernel_rfl)
  refine wpList_putK (K:=strK) rfl (.tmp 45) (.tmp 47) (.tmp 48) rfl Tryd.underlying75 Tryd.underlying9 B (HL1.out.map.kept (Kept.refl noneB W1).drew id) rfl y.m.path rfl (.int .i64 (i:Int)) rfl ?_
  intro w5 hm5 hk5 hs5
  have F:Hid (LayAt w5 g B (some ⟨b1,o1,none⟩) n c (look (putS S y.m.path i))∧Kept (oneB B) W w5):=by
   have hk':Kept (oneB B) W1 w5:=((Kept.refl (oneB B) W1).drew).trans hk5.out;refine Lib.hid ⟨⟨HL1.out.obj.keptS hk' HGB.out,?_⟩,(Kept.of_below HBW.out (oneB B)).trans hk'⟩;rw [numsK_put];exact hm5.out
  clear hm5 hk5 hs5
  go_wp2
  go_ret
  exact ⟨by rw [E.out];rfl,by rw [E.out];exact F.out.1,F.out.2⟩
end Go.Proofs.YthaoohbdjlbaeaaDoor.Tre
end
section
namespace Go.Proofs.YthaoohbdjlbaeaaDoor.Tre
open Mem
set_option linter.unusedVariables false
def Apart (S:St):Prop:=(S.map (·.1)).Nodup
theorem Apart.put {S:St} (h:Apart S) (p:List UInt8) (n:Nat):Apart (putS S p n):=by
 unfold Apart putS at *;rw [List.map_append,List.nodup_append];refine ⟨(List.Sublist.nodup (List.Sublist.map _ (List.filter_sublist)) h),by simp,?_⟩
 intro a ha b hb;simp only [List.map_cons,List.map_nil,List.mem_singleton] at hb;subst hb;rw [List.mem_map] at ha;obtain ⟨e,he,rfl⟩:=ha;rw [List.mem_filter] at he
 simpa using he.2
theorem look_mem {S:St} (h:Apart S) {e:List UInt8 × Nat} (he:e ∈ S):look S e.1=some e.2:=by
 unfold look Apart at *
 induction S with
 | nil => cases he
 | cons a S ih =>
   rw [List.map_cons,List.nodup_cons] at h;rw [List.find?_cons]
   by_cases ha:a.1=e.1
   ·have:(a.1 == e.1)=true:=by simpa using ha
    rw [this];rcases List.mem_cons.1 he with rfl | he'
    ·rfl
    ·exact absurd (List.mem_map.2 ⟨e,he',ha.symm⟩) h.1
   ·have:(a.1 == e.1)=false:=by simpa using ha
    rw [this];rcases List.mem_cons.1 he with rfl | he'
    ·exact absurd rfl ha
    ·exact ih h.2 he'
theorem look_isSome {S:St} (x:List UInt8):(look S x).isSome=true ↔ x ∈ S.map (·.1):=by
 unfold look;rw [Option.isSome_map,List.find?_isSome,List.mem_map];constructor
 ·rintro ⟨e,he,h⟩;exact ⟨e,he,by simpa using h⟩
 ·rintro ⟨e,he,h⟩;exact ⟨e,he,by simpa using h⟩
theorem layD_apart {ms:List MemV} {S S':St} {i:Nat} (h:layD ms S i=some S') (hS:Apart S):Apart S':=by
 unfold layD at h
 dsimp only at h
 split at h
 ·split at h
  ·cases h
  ·split at h
   ·cases h;exact hS.put _ _
   ·cases h
 ·cases h;exact hS.put _ _
theorem laysD_apart (ms:List MemV):∀ k S,laysD ms k=.ok S → Apart S
 | 0,S,h => by cases h;exact List.nodup_nil
 | k+1,S,h => by
   unfold laysD at h
   split at h
   ·cases h
   ·next S0 h0 =>
    split at h
    ·cases h
    ·next S1 h1 => cases h;exact layD_apart h1 (laysD_apart ms k S0 h0)
theorem laysD_in (ms:List MemV):∀ k S,k≤ms.length → laysD ms k=.ok S → InS S ms.length
 | 0,S,_,h => by cases h;intro e he;cases he
 | k+1,S,hk,h => by
   unfold laysD at h
   split at h
   ·cases h
   ·next S0 h0 =>
    split at h
    ·cases h
    ·next S1 h1 => cases h;exact layD_in h1 (laysD_in ms k S0 (by omega) h0) (by omega)
def RiseS (T:St):Prop:=T.Pairwise fun a b => ltB a.1 b.1=true
theorem leS_trans (a b c:List UInt8 × Nat) (h1:leS a b=true) (h2:leS b c=true):leS a c=true:=by
 unfold leS at *;simp only [Bool.not_eq_true'] at *
 cases h:ltB c.1 a.1 with
 | false => rfl
 | true => rw [ltB_le_trans (a:=b.1) (b:=c.1) (c:=a.1) h2 h] at h1;cases h1
theorem leS_total (a b:List UInt8 × Nat):(leS a b || leS b a)=true:=by
 unfold leS
 cases h:ltB b.1 a.1 with
 | false => simp
 | true => rw [ltB_asym h];simp
theorem sortS_perm (S:St):(sortS S).Perm S:=List.mergeSort_perm S leS
theorem sortS_rise {S:St} (h:Apart S):RiseS (sortS S):=by
 have h1:=List.pairwise_mergeSort leS_trans leS_total S;have h2:((sortS S).map (·.1)).Nodup:=((sortS_perm S).map _).nodup_iff.2 h
 have h3:(sortS S).Pairwise fun a b => a.1≠b.1:=(List.pairwise_map (f:=fun e:List UInt8 × Nat => e.1)).1 h2
 refine ((show (sortS S).Pairwise (fun a b => leS a b=true) from h1).and h3).imp fun ⟨h4,h5⟩ => ?_
 unfold leS at h4;exact ltB_of_not (by simpa using h4) (fun e => h5 e.symm)
theorem sortS_only {S T:St} (h:Apart S) (hp:T.Perm S) (hr:RiseS T):T=sortS S:=by
 have hr1:T.Pairwise fun (a b:List UInt8 × Nat) => ltB a.1 b.1=true:=hr
 have hr2:(sortS S).Pairwise fun (a b:List UInt8 × Nat) => ltB a.1 b.1=true:=sortS_rise h
 refine List.Perm.eq_of_pairwise (fun a b _ _ (h1:ltB a.1 b.1=true) (h2:ltB b.1 a.1=true) => ?_) hr1 hr2 (hp.trans (sortS_perm S).symm)
 rw [ltB_asym h1] at h2;cases h2
theorem keys_sort {S:St} (h:Apart S) {ts:List (List UInt8)} (hp:ts.Perm (S.map (·.1))) (hr:ts.Pairwise fun a b => ltB a b=true):sortS S=ts.map fun x => (x,(look S x).getD 0):=by
 symm
 refine sortS_only h ?_ ?_
 ·have:=hp.map fun x => (x,(look S x).getD 0)
  refine this.trans (List.Perm.of_eq ?_);rw [List.map_map]
  conv => rhs;rw [← List.map_id S]
  refine List.map_congr_left fun e he => ?_
  simp only [Function.comp,look_mem h he,Option.getD_some,id]
 ·unfold RiseS
  rw [List.pairwise_map];exact hr
def firstAt (T:St) (n:Nat):Option Nat:=T.findIdx? fun e => e.2 == n
theorem leadD_first {T:St} {n f:Nat} (h:firstAt T n=some f):leadD T n=(T.getD f ([],0)).1:=by
 unfold firstAt at h;rw [List.findIdx?_eq_some_iff_getElem] at h;obtain ⟨hf,h1,h2⟩:=h;unfold leadD
 have:T.find? (fun e => e.2 == n)=some T[f]:=by
  rw [List.find?_eq_some_iff_getElem];exact ⟨h1,f,hf,rfl,fun j hj => by simpa using h2 j hj⟩
 rw [this,List.getD,List.getElem?_eq_getElem hf];rfl
theorem firstAt_succ (T:St) (k n:Nat) (hk:k < T.length):firstAt (T.take (k+1)) n=(firstAt (T.take k) n).or (if (T.getD k ([],0)).2=n then some k else none):=by
 unfold firstAt;rw [List.take_succ_eq_append_getElem hk,List.findIdx?_append]
 congr 1
 have hg:T.getD k ([],0)=T[k]:=by rw [List.getD,List.getElem?_eq_getElem hk];rfl
 rw [hg]
 by_cases h:T[k].2=n
 ·simp [h,List.findIdx?_cons]
  omega
 ·have:(T[k].2 == n)=false:=by simpa using h
  simp [h,List.findIdx?_cons,this]
theorem firstAt_more {T:St} {k n f:Nat} (h:firstAt (T.take k) n=some f):firstAt T n=some f:=by
 unfold firstAt at *
 conv => lhs;rw [← List.take_append_drop k T,List.findIdx?_append,h]
 rfl
def leads (ms:List MemV) (T:St) (k n:Nat):Option Nat:=if (ms.getD n zeroMv).kind=48 then firstAt (T.take k) n else none
theorem leads_zero (ms:List MemV) (T:St) (n:Nat):leads ms T 0 n=none:=by
 unfold leads
 split<;>rfl
theorem leads_other {ms:List MemV} {T:St} {k:Nat} (hk:k < T.length) (h:(ms.getD (T.getD k ([],0)).2 zeroMv).kind≠48):leads ms T (k+1)=leads ms T k:=by
 funext n
 unfold leads
 split
 ·next hn =>
  rw [firstAt_succ T k n hk,if_neg (fun e => h (by rw [e];exact hn)),Option.or_none]
 ·rfl
theorem leads_old {ms:List MemV} {T:St} {k f:Nat} (hk:k < T.length) (h:leads ms T k (T.getD k ([],0)).2=some f):leads ms T (k+1)=leads ms T k:=by
 funext n
 unfold leads at *
 split
 ·next hn =>
  rw [firstAt_succ T k n hk]
  by_cases e:(T.getD k ([],0)).2=n
  ·rw [e,if_pos hn] at h
   rw [h];rfl
  ·rw [if_neg e,Option.or_none]
 ·rfl
theorem leads_new {ms:List MemV} {T:St} {k:Nat} (hk:k < T.length) (hf:(ms.getD (T.getD k ([],0)).2 zeroMv).kind=48) (h:leads ms T k (T.getD k ([],0)).2=none):leads ms T (k+1)=fun n => if n=(T.getD k ([],0)).2 then some k else leads ms T k n:=by
 funext n
 unfold leads at *;rw [if_pos hf] at h
 by_cases e:n=(T.getD k ([],0)).2
 ·rw [if_pos e,e,if_pos hf,firstAt_succ T k _ hk,h,if_pos rfl];rfl
 ·rw [if_neg e]
  split
  ·rw [firstAt_succ T k n hk,if_neg (fun h => e h.symm),Option.or_none]
  ·rfl
theorem leads_lead {ms:List MemV} {T:St} {k:Nat} (hk:k < T.length) (hf:(ms.getD (T.getD k ([],0)).2 zeroMv).kind=48):leadD T (T.getD k ([],0)).2=(T.getD ((leads ms T k (T.getD k ([],0)).2).getD k) ([],0)).1:=by
 have h1:firstAt (T.take (k+1)) (T.getD k ([],0)).2=some ((leads ms T k (T.getD k ([],0)).2).getD k):=by
  rw [firstAt_succ T k _ hk,if_pos rfl];unfold leads;rw [if_pos hf]
  cases firstAt (T.take k) (T.getD k ([],0)).2<;>rfl
 exact leadD_first (firstAt_more h1)
theorem leads_lt {ms:List MemV} {T:St} {k n f:Nat} (h:leads ms T k n=some f):f < k∧f < T.length:=by
 unfold leads at h
 split at h
 ·unfold firstAt at h
  rw [List.findIdx?_eq_some_iff_getElem] at h;obtain ⟨h1,_⟩:=h;rw [List.length_take] at h1;omega
 ·cases h
end Go.Proofs.YthaoohbdjlbaeaaDoor.Tre
end
section
namespace Go.Proofs.YthaoohbdjlbaeaaDoor.Tre
open Go.ChangeShapes Go.WideShapes Go.ChangeAt Go.RowKit Base Byt Txt Bk Mk Mem Go.Lib
set_option linter.unusedVariables false
set_option maxRecDepth 100000
theorem ret_fold {fn:Func} (hf:fn.results=#[.tmp 2,.cell 3 28]) (tmps:Array Value) (w:World) (g:Nat) (v:Value) (ht:tmps.getD 3 undef=.pointer (some ⟨g,0,none⟩)) (hv:tmps.getD 2 undef=v)
 (a b:Int) (hb:Blk w g 28 #[.int .i64 a,.int .i64 b]):(results fn tmps).run Tryd.prog w=.ok (.tuple #[v,.agg #[.int .i64 a,.int .i64 b]]) w:=by
 have c0:=hb.cell 0;have c1:=hb.cell 1;simp only [List.getElem?_toArray,List.getElem?_cons_zero,List.getElem?_cons_succ] at c0 c1;clear hb;have hl:(loadVar 28 ⟨g,0,none⟩).run Tryd.prog w=.ok (.agg #[.int .i64 a,.int .i64 b]) w:=by go_simp
 have ht':tmps[3]?.getD undef=.pointer (some ⟨g,0,none⟩):=by simpa using ht
 have hv':tmps[2]?.getD undef=v:=by simpa using hv
 simp only [results,hf];simp [Result.andThen,ht',hv',asAddr,hl]
theorem blk_flt {w:World} {g:Nat} {x y:Value} (h:Blk w g 28 #[x,y]) (a b:Value):Blk ((w.setCell ⟨g,0,none⟩ a).setCell ⟨g,1,none⟩ b) g 28 #[a,b]:=
 (h.set 0 a (by show 0 < 2;decide)).set 1 b (by show 1 < 2;decide)
theorem putS_len (S:St) (p:List UInt8) (n:Nat):(putS S p n).length≤S.length+1:=by
 unfold putS;rw [List.length_append];have:=List.length_filter_le (fun e:List UInt8 × Nat => !(e.1 == p)) S
 simpa using this
structure OkS (ms:List MemV) (S:St) (k:Nat):Prop where
 len:S.length≤k
 from_:∀ e ∈ S,∃ j,j < k∧e.1=(ms.getD j zeroMv).path
theorem OkS.put {ms:List MemV} {S:St} {k:Nat} (h:OkS ms S k) (n:Nat):OkS ms (putS S (ms.getD k zeroMv).path n) (k+1):=by
 refine ⟨Nat.le_trans (putS_len _ _ _) (Nat.succ_le_succ h.len),fun e he => ?_⟩
 unfold putS at he;rw [List.mem_append,List.mem_filter] at he;rcases he with he | he
 ·obtain ⟨j,hj,e2⟩:=h.from_ e he.1
  exact ⟨j,by omega,e2⟩
 ·rw [List.mem_singleton.1 he]
  exact ⟨k,by omega,rfl⟩
theorem OkS.lay {ms:List MemV} {S S':St} {k:Nat} (h:OkS ms S k) (hl:layD ms S k=some S'):OkS ms S' (k+1):=by
 unfold layD at hl
 dsimp only at hl
 split at hl
 ·split at hl
  ·cases hl
  ·split at hl
   ·cases hl;exact h.put _
   ·cases hl
 ·cases hl;exact h.put _
theorem laysD_ok (ms:List MemV):∀ k S,laysD ms k=.ok S → OkS ms S k
 | 0,S,h => by cases h;exact ⟨Nat.le_refl _,fun e he => by cases he⟩
 | k+1,S,h => by
   unfold laysD at h
   split at h
   ·cases h
   ·next S0 h0 =>
    split at h
    ·cases h
    ·next S1 h1 => cases h;exact (laysD_ok ms k S0 h0).lay h1
theorem laysD_step {ms:List MemV} {k:Nat} {S S':St} (h:laysD ms k=.ok S) (hl:layD ms S k=some S'):laysD ms (k+1)=.ok S':=by
 unfold laysD;rw [h]
 dsimp only
 rw [hl]
theorem laysD_fall {ms:List MemV} {k:Nat} {S:St} (h:laysD ms k=.ok S) (hl:layD ms S k=none):laysD ms (k+1)=.error k:=by
 unfold laysD;rw [h]
 dsimp only
 rw [hl]
theorem laysD_stay {ms:List MemV} {k:Nat} {i:Nat} (h:laysD ms k=.error i):∀ d,laysD ms (k+d)=.error i
 | 0 => h
 | d+1 => by
   show laysD ms ((k+d)+1)=_;unfold laysD;rw [laysD_stay h d]
theorem foldD_bad {ms:List MemV} {i:Nat} (h:badAt ms=some i):foldD ms=([],1,i):=by
 unfold badAt at h;unfold foldD;rw [h]
theorem foldD_link {ms:List MemV} {i:Nat} (h:badAt ms=none) (h2:laysD ms ms.length=.error i):foldD ms=([],7,i):=by
 unfold badAt at h;unfold foldD;rw [h]
 dsimp only
 rw [h2]
theorem foldD_ok {ms:List MemV} {S:St} (h:badAt ms=none) (h2:laysD ms ms.length=.ok S):foldD ms=(treeD ms S,0,0):=by
 unfold badAt at h;unfold foldD;rw [h]
 dsimp only
 rw [h2]
end Go.Proofs.YthaoohbdjlbaeaaDoor.Tre
end
section
namespace Go.Proofs.YthaoohbdjlbaeaaDoor.Tre
open Mem
set_option linter.unusedVariables false
theorem good_clean {m:MemV} (h:goodD m=true):cleanOk m.path=true:=by
 unfold goodD at h;simp only [Bool.and_eq_true] at h;exact h.1.1.1.1
theorem getM_in {ms:List MemV} {k:Nat} (hk:k < ms.length):ms.getD k zeroMv ∈ ms:=by
 rw [List.getD,List.getElem?_eq_getElem hk];exact List.getElem_mem hk
def StG (ms:List MemV) (S:St):Prop:=∀ e ∈ S,e.2 < ms.length∧(ms.getD e.2 zeroMv).kind≠49∧cleanOk e.1=true
theorem StG.put {ms:List MemV} {S:St} (h:StG ms S) {p:List UInt8} {n:Nat} (hn:n < ms.length) (hk:(ms.getD n zeroMv).kind≠49) (hp:cleanOk p=true):StG ms (putS S p n):=by
 intro e he;unfold putS at he;rw [List.mem_append,List.mem_filter] at he;rcases he with he | he
 ·exact h e he.1
 ·rw [List.mem_singleton.1 he]
  exact ⟨hn,hk,hp⟩
theorem layD_stg {ms:List MemV} (hg:∀ m ∈ ms,goodD m=true) {S S':St} {i:Nat} (hi:i < ms.length) (h:layD ms S i=some S') (hS:StG ms S):StG ms S':=by
 have hp:=good_clean (hg _ (getM_in hi));unfold layD at h
 dsimp only at h
 split at h
 ·split at h
  ·cases h
  ·next n hn =>
   split at h
   ·next h48 =>
    cases h
    refine hS.put (InS.look (N:=ms.length) (fun e he => (hS e he).1) hn) (by rw [h48];decide) hp
   ·cases h
 ·next h49 => cases h;exact hS.put hi h49 hp
theorem laysD_stg {ms:List MemV} (hg:∀ m ∈ ms,goodD m=true):∀ k S,k≤ms.length → laysD ms k=.ok S → StG ms S
 | 0,S,_,h => by cases h;intro e he;cases he
 | k+1,S,hk,h => by
   unfold laysD at h
   split at h
   ·cases h
   ·next S0 h0 =>
    split at h
    ·cases h
    ·next S1 h1 => cases h;exact layD_stg hg (by omega) h1 (laysD_stg hg k S0 (by omega) h0)
theorem treeD_count (ms:List MemV) (S:St):(treeD ms S).length=S.length:=by
 unfold treeD;rw [List.length_map,(sortS_perm S).length_eq]
theorem foldD_cases (ms:List MemV):(∃ i,badAt ms=some i∧foldD ms=([],1,i)) ∨ (badAt ms=none ∧ ∃ i,laysD ms ms.length=.error i∧foldD ms=([],7,i)) ∨ (badAt ms=none ∧ ∃ S,laysD ms ms.length=.ok S∧foldD ms=(treeD ms S,0,0)):=by
 cases h:badAt ms with
 | some i => exact .inl ⟨i,rfl,foldD_bad h⟩
 | none =>
   right
   cases h2:laysD ms ms.length with
   | error i => exact .inl ⟨rfl,i,rfl,foldD_link h h2⟩
   | ok S => exact .inr ⟨rfl,S,rfl,foldD_ok h h2⟩
theorem foldD_len (ms:List MemV):(foldD ms).1.length≤ms.length:=by
 rcases foldD_cases ms with ⟨i,_,e⟩ | ⟨_,i,_,e⟩ | ⟨hb,S,hS,e⟩
 ·rw [e];exact Nat.zero_le _
 ·rw [e];exact Nat.zero_le _
 ·rw [e]
  show (treeD ms S).length≤_;rw [treeD_count];exact (laysD_ok _ _ _ hS).len
theorem getM_app {ms:List MemV} {k:Nat} (hk:k < ms.length) (m:MemV):(ms++[m]).getD k zeroMv=ms.getD k zeroMv:=by
 rw [List.getD,List.getD,List.getElem?_append_left hk]
theorem getM_last (ms:List MemV) (m:MemV):(ms++[m]).getD ms.length zeroMv=m:=by
 rw [List.getD,List.getElem?_append_right (Nat.le_refl _)];simp
theorem layD_app {ms:List MemV} (m:MemV) {S:St} (hS:InS S ms.length) {i:Nat} (hi:i < ms.length):layD (ms++[m]) S i=layD ms S i:=by
 unfold layD
 dsimp only
 rw [getM_app hi]
 split
 ·cases h:look S (ms.getD i zeroMv).target with
  | none => rfl
  | some n =>
    dsimp only
    rw [getM_app (hS.look h)]
 ·rfl
theorem laysD_app {ms:List MemV} (m:MemV):∀ k,k≤ms.length → laysD (ms++[m]) k=laysD ms k
 | 0,_ => rfl
 | k+1,hk => by
   unfold laysD;rw [laysD_app m k (by omega)]
   cases h:laysD ms k with
   | error i => rfl
   | ok S =>
     dsimp only
     rw [layD_app m (laysD_in ms k S (by omega) h) (by omega)]
theorem badAt_app {ms:List MemV} {i:Nat} (h:badAt ms=some i) (m:MemV):badAt (ms++[m])=some i:=by
 unfold badAt at *;rw [List.findIdx?_append,h];rfl
theorem laysD_last {ms:List MemV} {S:St} (h:laysD ms ms.length=.ok S) {m:MemV} (hk:m.kind≠49):laysD (ms++[m]) (ms.length+1)=.ok (putS S m.path ms.length):=by
 refine laysD_step (by rw [laysD_app m _ (Nat.le_refl _)];exact h) ?_
 unfold layD
 dsimp only
 rw [getM_last,if_neg hk]
theorem len_app (ms:List MemV) (m:MemV):(ms++[m]).length=ms.length+1:=by simp
theorem find_tree (ms:List MemV) {S:St} (h:Apart S) (p:List UInt8):findN (treeD ms S) p=(look S p).map fun n => nodeD ms (sortS S) (p,n):=by
 unfold findN treeD;rw [List.find?_map]
 cases hf:(sortS S).find? ((fun x:NodeV => x.path == p) ∘ nodeD ms (sortS S)) with
 | none =>
   have hl:look S p=none:=by
    cases h2:look S p with
    | none => rfl
    | some n =>
      exfalso;have:p ∈ S.map (·.1):=(look_isSome p).1 (by rw [h2];rfl)
      obtain ⟨e,he,e1⟩:=List.mem_map.1 this;have h3:=List.find?_eq_none.1 hf e ((sortS_perm S).mem_iff.2 he);apply h3;show (e.1 == p)=true
      simpa using e1
   rw [hl];rfl
 | some e =>
   have h1:=List.mem_of_find?_eq_some hf;have h2':=List.find?_some hf;have h2:(e.1 == p)=true:=h2';have h3:e.1=p:=by simpa using h2
   have h4:=look_mem h ((sortS_perm S).mem_iff.1 h1);rw [h3] at h4;rw [h4];show some (nodeD ms (sortS S) e)=some (nodeD ms (sortS S) (p,e.2));rw [← h3]
theorem foldD_last_bad {ms:List MemV} {m:MemV} (hk:m.kind≠49) (hg:goodD m=true) (h:(foldD ms).2.1≠0):foldD (ms++[m])=foldD ms:=by
 rcases foldD_cases ms with ⟨i,hb,e⟩ | ⟨hb,i,hl,e⟩ | ⟨hb,S,hS,e⟩
 ·rw [e,foldD_bad (badAt_app hb m)]
 ·have hb2:badAt (ms++[m])=none:=badAt_none fun x hx => by
   rcases List.mem_append.1 hx with hx | hx
   ·exact badAt_all hb x hx
   ·rw [List.mem_singleton.1 hx];exact hg
  rw [e,foldD_link hb2 (i:=i) (by rw [len_app];exact laysD_stay (d:=1) (by rw [laysD_app m _ (Nat.le_refl _)];exact hl))]
 ·rw [e] at h;exact absurd rfl h
theorem nodeD_mem (ms:List MemV) (T:St) (p:List UInt8) (n:Nat):(nodeD ms T (p,n)).mem=⟨p,(ms.getD n zeroMv).target,(ms.getD n zeroMv).kind,(ms.getD n zeroMv).mode,(ms.getD n zeroMv).uid,(ms.getD n zeroMv).gid,(ms.getD n zeroMv).time,(ms.getD n zeroMv).body⟩:=rfl
theorem filter_le (S:St) (h:Apart S) (p:List UInt8):S.length≤(S.filter (fun e => !(e.1 == p))).length+1:=by
 unfold Apart at h
 induction S with
 | nil => exact Nat.zero_le _
 | cons a S ih =>
   rw [List.map_cons,List.nodup_cons] at h
   by_cases ha:a.1=p
   ·have hs:S.filter (fun e => !(e.1 == p))=S:=List.filter_eq_self.2 fun e he => by
     have:e.1≠p:=fun h2 => h.1 (List.mem_map.2 ⟨e,he,by rw [h2,ha]⟩)
     simpa using this
    rw [List.filter_cons_of_neg (by simp [ha]),hs]
    exact Nat.le_refl _
   ·rw [List.filter_cons_of_pos (by simpa using ha)]
    have:=ih h.2;simp only [List.length_cons];omega
theorem foldD_last {ms:List MemV} {m:MemV} (hk:m.kind≠49) (hg:goodD m=true) (h:(foldD ms).2.1=0) :
 (foldD (ms++[m])).2=(0,0)∧(∀ x ∈ (foldD ms).1,x.path≠m.path → ∃ y,findN (foldD (ms++[m])).1 x.path=some y∧y.mem=x.mem)∧(∃ y,findN (foldD (ms++[m])).1 m.path=some y∧y.mem=m) ∧
 (foldD ms).1.length≤(foldD (ms++[m])).1.length∧(foldD (ms++[m])).1.length≤(foldD ms).1.length+1:=by
 rcases foldD_cases ms with ⟨i,_,e⟩ | ⟨_,i,_,e⟩ | ⟨hb,S,hS,e⟩
 ·rw [e] at h;cases h
 ·rw [e] at h;cases h
 have hb2:badAt (ms++[m])=none:=badAt_none fun x hx => by
  rcases List.mem_append.1 hx with hx | hx
  ·exact badAt_all hb x hx
  ·rw [List.mem_singleton.1 hx];exact hg
 have hA:=laysD_apart _ _ _ hS;have hI:=laysD_in _ _ _ (Nat.le_refl _) hS;have e2:=foldD_ok hb2 (by rw [len_app];exact laysD_last hS hk)
 have hA2:=hA.put m.path ms.length;rw [e,e2];refine ⟨rfl,fun x hx hne => ?_,?_,?_,?_⟩
 ·unfold treeD at hx
  obtain ⟨a,ha,rfl⟩:=List.mem_map.1 hx;have ha':=(sortS_perm S).mem_iff.1 ha;have hp:(nodeD ms (sortS S) a).path=a.1:=rfl;rw [hp] at hne ⊢;refine ⟨_,by rw [find_tree _ hA2,look_put,if_neg hne,look_mem hA ha'];rfl,?_⟩
  rw [nodeD_mem,getM_app (hI a ha')];rfl
 ·refine ⟨_,by rw [find_tree _ hA2,look_put,if_pos rfl];rfl,?_⟩
  rw [nodeD_mem,getM_last]
 ·show (treeD ms S).length≤(treeD _ _).length
  rw [treeD_count,treeD_count];unfold putS;rw [List.length_append];exact filter_le S hA m.path
 ·show (treeD _ _).length≤(treeD ms S).length+1
  rw [treeD_count,treeD_count];exact putS_len _ _ _
end Go.Proofs.YthaoohbdjlbaeaaDoor.Tre
end
section
namespace Go.Proofs.YthaoohbdjlbaeaaDoor.Tre
open Go.ChangeShapes Go.WideShapes Go.ChangeAt Go.RowKit Base Byt Txt Bk Mem Go.Lib
set_option linter.unusedVariables false
set_option maxRecDepth 100000
theorem nodes_off {w w':World} {g:Nat} {t:TypeId} {a b:Int} {q:Option Addr} {n:Nat} {zs:List NP} (hb:Blk w g t #[.int .i64 a,.int .i64 b]) (h:NodesAt w q n zs) (hk:Kept (oneB g) w w'):NodesAt w' q n zs:=by
 have hne:∀ {i:Nat} {v:Value},w.cell? ⟨g,i,none⟩=some v → v=.int .i64 a ∨ v=.int .i64 b:=fun {i v} hv => by
  rw [hb.cell] at hv
  match i,hv with
  | 0,hv => cases hv;exact .inl rfl
  | 1,hv => cases hv;exact .inr rfl
 refine ⟨h.1,fun y hy => (h.2.1 y hy).kept hk (fun h0 z hz hg => ?_),fun h0 => ?_⟩
 ·obtain ⟨b',o,he,_,hc⟩:=(h.2.1 y hy).bat.cell h0
  rw [hz] at he
  cases he
  have e:b'=g:=hg;have c0:=hc 0 h0;rw [e] at c0;rcases hne c0 with h | h<;>cases h
 ·obtain ⟨b',o,he,hbw,hc⟩:=h.2.2 h0
  refine ⟨b',o,he,Nat.lt_of_lt_of_le hbw hk.size,fun i hi j hj => ?_⟩
  have hng:b'≠g:=fun e => by
   have c0:=hc 0 h0 0 (by omega)
   rw [e] at c0;rcases hne c0 with h | h<;>cases h
  rw [World.cell?_of_block (hk.block b' hbw (fun h => hng h))]
  exact hc i hi j hj
theorem neqS (a b:List UInt8):((str a).toList == (str b).toList)=decide (a=b):=by
 rw [str_toList,str_toList]
 by_cases h:a=b<;>simp [h]
theorem eqFltT_deep (a b a' b':Int) (n:Nat) (w:World):(Op.equalIn (n+1+1) 28 (.agg #[.int .i64 a,.int .i64 b]) (.agg #[.int .i64 a',.int .i64 b'])).run Tryd.prog w=.ok (decide (a=a'∧b=b')) w:=by
 have hM:Tryd.prog.underlying 28=some (.struct (Tryd.prog.fieldsOf 28)):=by kernel_rfl
 have pM:Tryd.prog.stoodInHeld 28=false:=by kernel_rfl
 rw [run_equalIn_agg (P:=Tryd.prog) w (n+1) 28 _ _ hM pM];clear hM pM;simp only [Program.fieldsOf,Tryd.underlying28]
 go_simp
 by_cases h4:a=a'<;>by_cases h5:b=b'<;>simp [h4,h5]
theorem eqFltT_self (a b:Int) (w:World):(binOp .eql 28 (.agg #[.int .i64 a,.int .i64 b]) (.agg #[.int .i64 a,.int .i64 b])).run Tryd.prog w=.ok (.bool true) w:=by
 rw [run_eql_struct,show (10000:Nat)=9998+1+1 from rfl,eqFltT_deep,decide_eq_true ⟨rfl,rfl⟩]
 rfl
end Go.Proofs.YthaoohbdjlbaeaaDoor.Tre
end
section
namespace Go.Proofs.YthaoohbdjlbaeaaDoor.Tre
open Go.ChangeShapes Go.WideShapes Go.ChangeAt Go.RowKit Base Byt Txt Bk Rec Block Mem Go.Proofs.YthaoohbdjlbaeaaDoor.Mp Go.Lib
set_option linter.unusedVariables false
set_option maxRecDepth 100000
theorem wpAny_opsT {P:Program} {ops ops':Array Oper} {Q:Exit → Act → World → Prop} {a:Act} {w:World} (h:ops=ops') (hw:wpAny P .any ops' Q ops'.size (Array.replicate ops'.size false) a w):wpAny P .any ops Q ops.size (Array.replicate ops.size false) a w:=h ▸ hw
theorem ld_memT (w:World) (g:Nat) (y:MP) (hb:Blk w g 45 y.cs):(Instr.loadAt 45 (.pointer (some ⟨g,0,none⟩))).run Tryd.prog w=.ok (.agg y.cs) w:=by
 have c0:=hb.cell;unfold MP.cs memC at c0 ⊢
 go_simp
theorem bs_memT (w:World) (a b:ByteArray) (k m u i t:Int) (p:Option Addr) (n c:Nat):(Instr.buildSlice 22 1 #[(0,.agg #[.string a,.string b,.int .u8 k,.int .i64 m,.int .i64 u,.int .i64 i,.int .i64 t,.slice p n c])]).run Tryd.prog w =
 .ok (.slice (some ⟨w.heap.size,0,none⟩) 1 1) (w.alloc (.cells #[.string a,.string b,.int .u8 k,.int .i64 m,.int .i64 u,.int .i64 i,.int .i64 t,.slice p n c] 45)):=by kernel_rfl
theorem bs_memTY (w:World) (y:MP):(Instr.buildSlice 22 1 #[(0,.agg y.cs)]).run Tryd.prog w=.ok (.slice (some ⟨w.heap.size,0,none⟩) 1 1) (w.alloc (.cells y.cs 45)):=bs_memT w _ _ _ _ _ _ _ _ _ _
theorem bs_noneT (w:World):(Instr.buildSlice 22 0 #[]).run Tryd.prog w=.ok (.slice (some ⟨w.heap.size,0,none⟩) 0 0) (w.alloc (.cells #[] 45)):=by kernel_rfl
theorem al_flt (w:World):(Instr.alloc 28 true (.tuple #[])).run Tryd.prog w=.ok (.pointer (some ⟨w.heap.size,0,none⟩)) (w.alloc (.cells #[.int .i64 0,.int .i64 0] 28)):=by kernel_rfl
section
variable {w:World} {o:Oper} {a:Act} {K:Act → World → Prop} {Q:Exit → Act → World → Prop}
theorem wp_appM (x y:Operand) (ho:o.op=.call { callee:=.builtin .append,args:=#[x,y],argTypes:=#[22,22] })
 (base:Nat) (v:Value) (n:Nat) (xs:List MP) (hn:xs.length=n) (hs:a.eval x=v) (hown:w.ownsRow base 45 8 v n (flatM xs))
 (p:Option Addr) (m c:Nat) (ys:List MP) (hx:a.eval y=.slice p m c) (hb:MemsAt w p m ys) (hsum:(n+m) * 96≤140737488355328) (hbase:base≤w.heap.size)
 (h:∀ v' w',w'.ownsRow base 45 8 v' (xs++ys).length (flatM (xs++ys)) → w.grownBy w' v.ownBlock → K (a.put o.dst v') w'):Oper.wp Tryd.prog o a w K Q:=by
 obtain ⟨i,hi,hz,hsize,hby⟩:=info_parts infoMem;have hl:=hb.1
 have key:∃ v' w',(Builtin.append_ #[22,22] o.type #[v,.slice p m c]).run Tryd.prog w=.ok v' w'∧w'.ownsRow base 45 8 v' (xs++ys).length (flatM (xs++ys))∧w.grownBy w' v.ownBlock:=by
  rcases p with _ | ad
  ·have hm:m=0:=by
    rcases Nat.eq_zero_or_pos m with h0 | h0
    ·exact h0
    ·obtain ⟨_,_,he,_⟩:=hb.2.2 h0
     cases he
   subst hm;obtain rfl:ys=[]:=List.eq_nil_of_length_eq_zero hl;refine ⟨v,w,?_,by rw [List.append_nil,hn];exact hown,World.grownBy.refl w _⟩
   rcases hown.2 with ⟨rfl,rfl⟩ | ⟨g,cap,cur,rfl,_,_,hnc,_⟩
   ·simp [Builtin.append_,run_underlying Tryd.underlying22,sizeOf,typeInfo,hi,Builtin.lenOf,Builtin.firstCells]
   ·simp [Builtin.append_,run_underlying Tryd.underlying22,sizeOf,typeInfo,hi,Builtin.lenOf,Builtin.firstCells,hnc,storeCells]
  ·obtain ⟨v',w',hr,h2,h3,_⟩:=run_append_newS (P:=Tryd.prog) base 22 o.type 45 i _ 8 96 Tryd.underlying22 hi hz hsize hby rfl (by decide) v n (flatM xs) hown ad m c (flatM ys) (by rw [flatM_length,hl];omega) (by
    intro j u hj
    have hjl:j < 8 * m:=by
     have:=(List.getElem?_eq_some_iff.1 hj).1;rw [flatM_length,hl] at this;exact this
    obtain ⟨b,off,he,_,hc⟩:=hb.2.2 (by omega)
    cases he
    have h1:=hc (j / 8) (by omega) (j % 8) (by omega)
    have h2:=flatM_get ys (j / 8) (by omega) (j % 8) (by omega)
    rw [show 8 * (j / 8)+j % 8=j by omega] at h2
    rw [WideShapes.add_plain,show off+j=off+8 * (j / 8)+j % 8 by omega,h1,← h2]
    exact hj) (flatM_one ys) (by unfold maxLen;omega) hsum hbase
   rw [← flatM_app,show n+m=(xs++ys).length by rw [List.length_append,hn,hl]] at h2
   exact ⟨v',w',hr,h2,h3⟩
 obtain ⟨v',w',hr,h2,h3⟩:=key;have hr2:(execOp a.eval o).run Tryd.prog w=.ok (.value v') w':=by simp [execOp,ho,resolve,invoke,builtin,hs,hx,hr,Result.andThen]
 unfold Oper.wp;rw [hr2,Oper.upon_value];exact h v' w' h2 h3
theorem wp_storeF (p x:Operand) (ho:o.op=.store 28 p x) (g:Nat) (hp:a.eval p=.pointer (some ⟨g,0,none⟩)) (e i e0 i0:Int) (hx:a.eval x=.agg #[.int .i64 e,.int .i64 i]) (hz:Blk w g 28 #[.int .i64 e0,.int .i64 i0])
 (hK:∀ w',Blk w' g 28 #[.int .i64 e,.int .i64 i] → Kept (oneB g) w w' → K (a.put o.dst undef) w'):Oper.wp Tryd.prog o a w K Q:=by
 have c0:=hz.cell 0;have c1:=hz.cell 1;have f0:=hz.frozen;have h2:=blk_flt hz (.int .i64 e) (.int .i64 i);simp only [List.getElem?_toArray,List.getElem?_cons_zero,List.getElem?_cons_succ] at c0 c1;have k2:Kept (oneB g) w ((w.setCell ⟨g,0,none⟩ (.int .i64 e)).setCell ⟨g,1,none⟩ (.int .i64 i)):=((Kept.refl (oneB g) w).setCell (a:=⟨g,0,none⟩) (.inr rfl) _).setCell (a:=⟨g,1,none⟩) (.inr rfl) _;clear hz
 have hr:(execOp a.eval o).run Tryd.prog w=.ok .skip ((w.setCell ⟨g,0,none⟩ (.int .i64 e)).setCell ⟨g,1,none⟩ (.int .i64 i)):=by
  generalize a.eval=ev at hp hx;simp [go_sem,execOp,ho,hp,hx,c0,c1,f0,Result.andThen]
 unfold Oper.wp;rw [hr,Oper.upon_skip];exact hK _ h2 k2
end
theorem own_flt_ne {w:World} {base n b:Nat} {v:Value} {xs:List Value} {ds:Array Value} (ho:w.ownsRow base 45 8 v n xs) (hb:Blk w b 28 ds):v.ownBlock≠some b:=fun e => by
 rcases ho.2 with ⟨rfl,_⟩ | ⟨g,cap,cur,rfl,_,hg,_⟩
 ·cases e
 ·have hgb:g=b:=by simpa [Value.ownBlock] using e
  subst hgb;unfold Blk at hb;rw [hg] at hb;simp only [Option.some.injEq,Obj.cells.injEq] at hb;exact absurd hb.2.1 (by decide)
theorem blk_grownT {w w':World} {b:Nat} {t:TypeId} {cs:Array Value} {row:Option Nat} (hb:Blk w b t cs) (hg:w.grownBy w' row) (hne:row≠some b):Blk w' b t cs:=
 (hg.block b hb.lt (fun e => hne e.symm)).trans hb
theorem mems_oneT {w:World} {b:Nat} {y:MP} (hb:Blk w b 45 y.cs) (hB:BodyAt w y):MemsAt w (some ⟨b,0,none⟩) 1 [y]:=by
 refine ⟨rfl,fun x hx => by rw [List.mem_singleton.1 hx];exact hB,fun _ => ⟨b,0,rfl,hb.lt,fun i hi j hj => ?_⟩⟩
 obtain rfl:i=0:=by omega
 simp only [Nat.mul_zero,Nat.zero_add];rw [hb.cell];rfl
noncomputable def last4Ops:Array Oper:=regionAt Tryd.f6 4
structure G4 where
 va:Value
 vb:Value
 vc:Value
 vd:Value
 vr:Value
 bx:Nat
def l4V (v0:Value) (x:MP) (er ix:Int) (γ:G4):Nat → Value
 | 0 => γ.va | 1 => v0 | 2 => γ.vb | 3 => .agg x.cs | 4 => γ.vc | 5 => γ.vd | 6 => .tuple #[γ.vr,.agg #[.int .i64 er,.int .i64 ix]] | 7 => .tuple #[γ.vr,.agg #[.int .i64 er,.int .i64 ix]] | 8 => γ.vr | 9 => .agg #[.int .i64 er,.int .i64 ix] | 10 => .pointer (some ⟨γ.bx,0,none⟩) | 11 => γ.vr | _ => undef
theorem last4_size:last4Ops.size=13:=rfl
theorem last4_apart:apartG last4Ops 156=true:=by kernel_rfl
theorem last4_dst0:dstAt last4Ops 0=some 40:=rfl
theorem last4_op0:∃ o,last4Ops[0]? = some o∧o.op=.buildSlice 22 0 #[]∧o.dst=some 40:=⟨_,rfl,rfl,rfl⟩
theorem last4_dst1:dstAt last4Ops 1=some 41:=rfl
theorem last4_op1:∃ o,last4Ops[1]? = some o∧o.op=.move (.tmp 0)∧o.dst=some 41:=⟨_,rfl,rfl,rfl⟩
theorem last4_dst2:dstAt last4Ops 2=some 42:=rfl
theorem last4_op2:∃ o,last4Ops[2]? = some o∧o.op=.call { callee:=.builtin .append,args:=#[.tmp 40,.tmp 41],argTypes:=#[22,22] }∧o.dst=some 42:=⟨_,rfl,rfl,rfl⟩
theorem last4_dst3:dstAt last4Ops 3=some 43:=rfl
theorem last4_op3:∃ o,last4Ops[3]? = some o∧o.op=.load 45 (.tmp 3)∧o.dst=some 43:=⟨_,rfl,rfl,rfl⟩
theorem last4_dst4:dstAt last4Ops 4=some 44:=rfl
theorem last4_op4:∃ o,last4Ops[4]? = some o∧o.op=.buildSlice 22 1 #[(0,.tmp 43)]∧o.dst=some 44:=⟨_,rfl,rfl,rfl⟩
theorem last4_dst5:dstAt last4Ops 5=some 45:=rfl
theorem last4_op5:∃ o,last4Ops[5]? = some o∧o.op=.call { callee:=.builtin .append,args:=#[.tmp 42,.tmp 44],argTypes:=#[22,22] }∧o.dst=some 45:=⟨_,rfl,rfl,rfl⟩
theorem last4_dst6:dstAt last4Ops 6=some 46:=rfl
theorem last4_op6:∃ o,last4Ops[6]? = some o∧o.op=.call { callee:=.value (.func 10),args:=#[.tmp 45],argTypes:=#[22] }∧o.dst=some 46:=⟨_,rfl,rfl,rfl⟩
theorem last4_dst7:dstAt last4Ops 7=some 39:=rfl
theorem last4_op7:∃ o,last4Ops[7]? = some o∧o.op=.move (.tmp 46)∧o.dst=some 39:=⟨_,rfl,rfl,rfl⟩
theorem last4_dst8:dstAt last4Ops 8=some 47:=rfl
theorem last4_op8:∃ o,last4Ops[8]? = some o∧o.op=.extract (.tmp 39) 0∧o.dst=some 47:=⟨_,rfl,rfl,rfl⟩
theorem last4_dst9:dstAt last4Ops 9=some 48:=rfl
theorem last4_op9:∃ o,last4Ops[9]? = some o∧o.op=.extract (.tmp 39) 1∧o.dst=some 48:=⟨_,rfl,rfl,rfl⟩
theorem last4_dst10:dstAt last4Ops 10=some 8:=rfl
theorem last4_op10:∃ o,last4Ops[10]? = some o∧o.op=.alloc 28∧o.dst=some 8:=⟨_,rfl,rfl,rfl⟩
theorem last4_dst11:dstAt last4Ops 11=some 7:=rfl
theorem last4_op11:∃ o,last4Ops[11]? = some o∧o.op=.assign (.tmp 47)∧o.dst=some 7:=⟨_,rfl,rfl,rfl⟩
theorem last4_dst12:dstAt last4Ops 12=none:=rfl
theorem last4_op12:∃ o,last4Ops[12]? = some o∧o.op=.store 28 (.tmp 8) (.tmp 48)∧o.dst=none:=⟨_,rfl,rfl,rfl⟩
theorem l4V_va (v0:Value) (x:MP) (er ix:Int) (γ:G4) (z:Value) {i:Nat} (h:i≠0):l4V v0 x er ix { γ with va:=z } i=l4V v0 x er ix γ i:=by
 unfold l4V
 split<;>first | rfl | exact absurd rfl h
theorem l4V_vb (v0:Value) (x:MP) (er ix:Int) (γ:G4) (z:Value) {i:Nat} (h:i≠2):l4V v0 x er ix { γ with vb:=z } i=l4V v0 x er ix γ i:=by
 unfold l4V
 split<;>first | rfl | exact absurd rfl h
theorem l4V_vc (v0:Value) (x:MP) (er ix:Int) (γ:G4) (z:Value) {i:Nat} (h:i≠4):l4V v0 x er ix { γ with vc:=z } i=l4V v0 x er ix γ i:=by
 unfold l4V
 split<;>first | rfl | exact absurd rfl h
theorem l4V_vd (v0:Value) (x:MP) (er ix:Int) (γ:G4) (z:Value) {i:Nat} (h:i≠5):l4V v0 x er ix { γ with vd:=z } i=l4V v0 x er ix γ i:=by
 unfold l4V
 split<;>first | rfl | exact absurd rfl h
theorem l4V_bx (v0:Value) (x:MP) (er ix:Int) (γ:G4) (z:Nat) {i:Nat} (h:i≠10):l4V v0 x er ix { γ with bx:=z } i=l4V v0 x er ix γ i:=by
 unfold l4V
 split<;>first | rfl | exact absurd rfl h
theorem l4V_vr (v0:Value) (x:MP) (er ix:Int) (γ:G4) (z:Value) {i:Nat} (h:i≠6∧i≠7∧i≠8∧i≠11):l4V v0 x er ix { γ with vr:=z } i=l4V v0 x er ix γ i:=by
 unfold l4V
 split<;>first | rfl | (exfalso;omega)
structure W4 (w1:World) (n:Nat) (xs:List MP) (x:MP) (t:List NodeV) (er ix:Int) (γ:G4) (La Lb Lc Ld Le Lx Ls:Bool) (w:World):Prop where
 bel:Below w1.heap.size w1 w
 ra:La=true → Lb=false → w.ownsRow w1.heap.size 45 8 γ.va 0 []
 rb:Lb=true → Ld=false → w.ownsRow w1.heap.size 45 8 γ.vb n (flatM xs)
 rc:Lc=true → Ld=false → ∃ b,γ.vc=.slice (some ⟨b,0,none⟩) 1 1∧Blk w b 45 x.cs∧w1.heap.size≤b∧(La=true → Lb=false → γ.va.ownBlock≠some b)
 rd:Ld=true → Le=false → ∃ p c,γ.vd=.slice p (n+1) c∧MemsAt w p (n+1) (xs++[x])
 rr:Le=true → ∃ q d zs,γ.vr=.slice q t.length d∧zs.map NP.m=t∧NodesAt w q t.length zs
 rx:Lx=true → w1.heap.size≤γ.bx∧Blk w γ.bx 28 (if Ls=true then #[.int .i64 er,.int .i64 ix] else #[.int .i64 0,.int .i64 0])
 cd:Ld=true → Lb=true
 cc:Ld=true → Lc=true
 ce:Le=true → Ld=true
 cs:Ls=true → Le=true∧Lx=true
theorem W4.grow {w1 w w':World} {n:Nat} {xs:List MP} {x:MP} {t:List NodeV} {er ix:Int} {γ:G4} {La Lb Lc Ld Le Lx Ls:Bool} (h:W4 w1 n xs x t er ix γ La Lb Lc Ld Le Lx Ls w) (hb:Below w.heap.size w w'):W4 w1 n xs x t er ix γ La Lb Lc Ld Le Lx Ls w' where
 bel:=h.bel.trans (hb.mono h.bel.size)
 ra:=fun h1 h2 => row_below (h.ra h1 h2) hb
 rb:=fun h1 h2 => row_below (h.rb h1 h2) hb
 rc:=fun h1 h2 => by
  obtain ⟨b,e1,e2,e3,e4⟩:=h.rc h1 h2;exact ⟨b,e1,e2.below hb e2.lt,e3,e4⟩
 rd:=fun h1 h2 => by
  obtain ⟨p,c,e1,e2⟩:=h.rd h1 h2;exact ⟨p,c,e1,e2.below hb⟩
 rr:=fun h1 => by
  obtain ⟨q,d,zs,e1,e2,e3⟩:=h.rr h1;exact ⟨q,d,zs,e1,e2,e3.below hb⟩
 rx:=fun h1 => ⟨(h.rx h1).1,(h.rx h1).2.below hb (h.rx h1).2.lt⟩
 cd:=h.cd
 cc:=h.cc
 ce:=h.ce
 cs:=h.cs
set_option maxHeartbeats 4000000 in
theorem last4_region {Q':Exit → Act → World → Prop} {a0:Act} {w1:World} (bm:Nat) (p1:Option Addr) (n c1:Nat) (xs:List MP) (x:MP) (t:List NodeV) (er ix:Int) (v0:Value) (hv0:v0=.slice p1 n c1)
 (hsz:156≤a0.tmps.size) (h0:a0.eval (.tmp 0)=v0) (h3:a0.eval (.tmp 3)=.pointer (some ⟨bm,0,none⟩)) (hbox:Blk w1 bm 45 x.cs) (hbod:BodyAt w1 x) (hmem:MemsAt w1 p1 n xs) (hn:n≤1000)
 (hcall:∀ w p c,Below w1.heap.size w1 w → MemsAt w p (n+1) (xs++[x]) → Calls Tryd.prog 10 #[.slice p (n+1) c] w fun e w' => ∃ q d zs,e=.returned (.tuple #[.slice q t.length d,.agg #[.int .i64 er,.int .i64 ix]])∧zs.map NP.m=t∧NodesAt w' q t.length zs∧Below w.heap.size w w')
 (hQ:∀ (γ:G4) w',Below w1.heap.size w1 w' → (∃ q d zs,γ.vr=.slice q t.length d∧zs.map NP.m=t∧NodesAt w' q t.length zs) → Blk w' γ.bx 28 #[.int .i64 er,.int .i64 ix] → Q' .normal ((((((((((((a0.put (some 40) (γ.va)).put (some 41) (v0)).put (some 42) (γ.vb)).put (some 43) (.agg x.cs)).put (some 44) (γ.vc)).put (some 45) (γ.vd)).put (some 46) (.tuple #[γ.vr,.agg #[.int .i64 er,.int .i64 ix]])).put (some 39) (.tuple #[γ.vr,.agg #[.int .i64 er,.int .i64 ix]])).put (some 47) (γ.vr)).put (some 48) (.agg #[.int .i64 er,.int .i64 ix])).put (some 8) (.pointer (some ⟨γ.bx,0,none⟩))).put (some 7) (γ.vr)) w') :
 wpAny Tryd.prog .any last4Ops Q' last4Ops.size (Array.replicate last4Ops.size false) a0 w1.drew:=by
 have no:∀ j,(Array.replicate last4Ops.size false).getD j false=false:=fun j => by
  rw [Array.getD_eq_getD_getElem?,Array.getElem?_replicate]
  split<;>rfl
 refine wpAny_ghost (Γ:=G4) (l4V v0 x er ix) { va:=undef,vb:=undef,vc:=undef,vd:=undef,vr:=undef,bx:=0 } a0 (fun γ listed w => W4 w1 n xs x t er ix γ (listed.getD 0 false) (listed.getD 2 false) (listed.getD 4 false) (listed.getD 5 false) (listed.getD 6 false) (listed.getD 10 false) (listed.getD 12 false) w ∧ ∀ k,(k=7 ∨ k=8 ∨ k=11) → listed.getD k false=true → listed.getD 6 false=true) 156 last4_apart hsz ?_ ?_ ?_
 ·intro γ listed a w j o h ho hun hdep
  have hlt:=lt_of_unlisted hun;have hW:=h.wd.1;have hC:=h.wd.2
  have hj:j < 13:=by
   have:=(Array.getElem?_eq_some_iff.1 ho).1
   rwa [last4_size] at this
  have same:∀ {j':Nat} {o':Oper},last4Ops[j']? = some o' → j=j' → o'=o:=fun {j' o'} h' e => by subst e;exact Option.some.inj (h'.symm.trans ho)
  have hlf:=getD_flip hun;have hne:∀ i,listed.getD i false=true → i≠j:=fun i hi e => by rw [e,hlf] at hi;cases hi
  have step:(j=6 ∨ ((j=7 ∨ j=8 ∨ j=11) → listed.getD 6 false=true)) → ∀ k,(k=7 ∨ k=8 ∨ k=11) → (listed.setIfInBounds j true).getD k false=true → (listed.setIfInBounds j true).getD 6 false=true:=by
   intro hj6 k hk hl;rw [listed_get hlt] at hl ⊢
   by_cases h6:6=j
   ·rw [if_pos h6]
   ·rw [if_neg h6]
    rcases hj6 with e | e
    ·exact absurd e.symm h6
    ·by_cases hkj:k=j
     ·exact e (by omega)
     ·rw [if_neg hkj] at hl
      exact hC k hk hl
  rcases (show j=0 ∨ j=1 ∨ j=2 ∨ j=3 ∨ j=4 ∨ j=5 ∨ j=6 ∨ j=7 ∨ j=8 ∨ j=9 ∨ j=10 ∨ j=11 ∨ j=12 by omega) with rfl | rfl | rfl | rfl | rfl | rfl | rfl | rfl | rfl | rfl | rfl | rfl | rfl
  ·obtain ⟨o',ho',hop,hdst⟩:=last4_op0
   obtain rfl:=same ho' rfl;have eLa:(listed.setIfInBounds 0 true).getD 0 false=true:=by rw [listed_get hlt,if_pos rfl]
   have eLb:(listed.setIfInBounds 0 true).getD 2 false=listed.getD 2 false:=by rw [listed_get hlt,if_neg (by decide)]
   have eLc:(listed.setIfInBounds 0 true).getD 4 false=listed.getD 4 false:=by rw [listed_get hlt,if_neg (by decide)]
   have eLd:(listed.setIfInBounds 0 true).getD 5 false=listed.getD 5 false:=by rw [listed_get hlt,if_neg (by decide)]
   have eLe:(listed.setIfInBounds 0 true).getD 6 false=listed.getD 6 false:=by rw [listed_get hlt,if_neg (by decide)]
   have eLx:(listed.setIfInBounds 0 true).getD 10 false=listed.getD 10 false:=by rw [listed_get hlt,if_neg (by decide)]
   have eLs:(listed.setIfInBounds 0 true).getD 12 false=listed.getD 12 false:=by rw [listed_get hlt,if_neg (by decide)]
   have q:=bs_noneT w;have hr:(execOp a.eval o').run Tryd.prog w=.ok (.value (.slice (some ⟨w.heap.size,0,none⟩) 0 0)) (w.alloc (.cells #[] 45)):=by simp [execOp,hop,q,Result.andThen]
   have hba:Below w.heap.size w (w.alloc (.cells #[] 45)):=(Below.refl _ w).alloc (Nat.le_refl _) _;have hG:=hW.grow hba;unfold Oper.wp;rw [hr,Oper.upon_value];refine ⟨{ γ with va:=.slice (some ⟨w.heap.size,0,none⟩) 0 0 },fun i hi => l4V_va _ _ _ _ _ _ (hne i hi),rfl,?_,step (.inr (fun h => by omega))⟩
   rw [eLa,eLb,eLc,eLd,eLe,eLx,eLs]
   exact { bel:=hG.bel,ra:=fun _ _ => World.ownsRow_made w #[] 0 hW.bel.size (by decide) rfl,rb:=hG.rb,rc:=fun h1 h2 => by
            obtain ⟨b,e1,e2,e3,_⟩:=hW.rc h1 h2;exact ⟨b,e1,e2.alloc _,e3,fun _ _ e => by have h5:=e2.lt;simp only [Value.ownBlock,Option.some.injEq] at e;omega⟩
           rd:=hG.rd,rr:=hG.rr,rx:=hG.rx,cd:=hG.cd,cc:=hG.cc,ce:=hG.ce,cs:=hG.cs }
  ·obtain ⟨o',ho',hop,hdst⟩:=last4_op1
   obtain rfl:=same ho' rfl;have eLa:(listed.setIfInBounds 1 true).getD 0 false=listed.getD 0 false:=by rw [listed_get hlt,if_neg (by decide)]
   have eLb:(listed.setIfInBounds 1 true).getD 2 false=listed.getD 2 false:=by rw [listed_get hlt,if_neg (by decide)]
   have eLc:(listed.setIfInBounds 1 true).getD 4 false=listed.getD 4 false:=by rw [listed_get hlt,if_neg (by decide)]
   have eLd:(listed.setIfInBounds 1 true).getD 5 false=listed.getD 5 false:=by rw [listed_get hlt,if_neg (by decide)]
   have eLe:(listed.setIfInBounds 1 true).getD 6 false=listed.getD 6 false:=by rw [listed_get hlt,if_neg (by decide)]
   have eLx:(listed.setIfInBounds 1 true).getD 10 false=listed.getD 10 false:=by rw [listed_get hlt,if_neg (by decide)]
   have eLs:(listed.setIfInBounds 1 true).getD 12 false=listed.getD 12 false:=by rw [listed_get hlt,if_neg (by decide)]
   have keep:W4 w1 n xs x t er ix γ ((listed.setIfInBounds 1 true).getD 0 false) ((listed.setIfInBounds 1 true).getD 2 false) ((listed.setIfInBounds 1 true).getD 4 false) ((listed.setIfInBounds 1 true).getD 5 false) ((listed.setIfInBounds 1 true).getD 6 false) ((listed.setIfInBounds 1 true).getD 10 false) ((listed.setIfInBounds 1 true).getD 12 false) w:=by rw [eLa,eLb,eLc,eLd,eLe,eLx,eLs];exact hW
   exact wp_move _ _ (Or.inl hop) ((h.old (t:=0) (by kernel_rfl)).trans h0) ⟨γ,fun _ _ => rfl,rfl,keep,step (.inr (fun h => by omega))⟩
  ·obtain ⟨o',ho',hop,hdst⟩:=last4_op2
   obtain rfl:=same ho' rfl;have eLa:(listed.setIfInBounds 2 true).getD 0 false=listed.getD 0 false:=by rw [listed_get hlt,if_neg (by decide)]
   have eLb:(listed.setIfInBounds 2 true).getD 2 false=true:=by rw [listed_get hlt,if_pos rfl]
   have eLc:(listed.setIfInBounds 2 true).getD 4 false=listed.getD 4 false:=by rw [listed_get hlt,if_neg (by decide)]
   have eLd:(listed.setIfInBounds 2 true).getD 5 false=listed.getD 5 false:=by rw [listed_get hlt,if_neg (by decide)]
   have eLe:(listed.setIfInBounds 2 true).getD 6 false=listed.getD 6 false:=by rw [listed_get hlt,if_neg (by decide)]
   have eLx:(listed.setIfInBounds 2 true).getD 10 false=listed.getD 10 false:=by rw [listed_get hlt,if_neg (by decide)]
   have eLs:(listed.setIfInBounds 2 true).getD 12 false=listed.getD 12 false:=by rw [listed_get hlt,if_neg (by decide)]
   have x0:a.eval (.tmp 40)=γ.va:=(h.get ho hdep (i:=0) (d:=40) (by kernel_rfl) rfl)
   have x1:a.eval (.tmp 41)=.slice p1 n c1:=((h.get ho hdep (i:=1) (d:=41) (by kernel_rfl) rfl)).trans hv0
   have la:listed.getD 0 false=true:=dep_listed ho hdep (by kernel_rfl)
   have nd:listed.getD 5 false=false:=by
    cases hx:listed.getD 5 false with
    | false => rfl
    | true => have:=hW.cd hx;rw [hlf] at this;cases this
   have hra:=hW.ra la hlf;refine wp_appM _ _ hop w1.heap.size γ.va 0 [] rfl x0 hra p1 n c1 xs x1 (hmem.below hW.bel) (by omega) hW.bel.size (fun v' w' h1 h2 => ⟨{ γ with vb:=v' },fun i hi => l4V_vb _ _ _ _ _ _ (hne i hi),rfl,?_,step (.inr (fun h => by omega))⟩)
   rw [eLa,eLb,eLc,eLd,eLe,eLx,eLs];have hK:Kept (fun b => γ.va.ownBlock=some b) w w':=(Kept.refl _ w).grown h2 (fun k hk => .inr hk)
   rw [List.nil_append,hmem.1] at h1
   exact { bel:=hW.bel.trans (hK.below hW.bel.size (fun k hk => (World.ownsRow.lt hra _ hk).1)),ra:=fun _ hx => (by cases hx),rb:=fun _ _ => h1,rc:=fun h3 h4 => by
            obtain ⟨b,e1,e2,e3,e4⟩:=hW.rc h3 h4;exact ⟨b,e1,e2.keptS hK (e4 la hlf),e3,fun _ hx => (by cases hx)⟩
           rd:=fun hx => absurd hx (by rw [nd];decide),rr:=fun hx => absurd (hW.ce hx) (by rw [nd];decide),rx:=fun h3 => ⟨(hW.rx h3).1,blk_grownT (hW.rx h3).2 h2 (own_flt_ne hra (hW.rx h3).2)⟩,cd:=fun _ => rfl,cc:=hW.cc,ce:=hW.ce,cs:=hW.cs }
  ·obtain ⟨o',ho',hop,hdst⟩:=last4_op3
   obtain rfl:=same ho' rfl;have eLa:(listed.setIfInBounds 3 true).getD 0 false=listed.getD 0 false:=by rw [listed_get hlt,if_neg (by decide)]
   have eLb:(listed.setIfInBounds 3 true).getD 2 false=listed.getD 2 false:=by rw [listed_get hlt,if_neg (by decide)]
   have eLc:(listed.setIfInBounds 3 true).getD 4 false=listed.getD 4 false:=by rw [listed_get hlt,if_neg (by decide)]
   have eLd:(listed.setIfInBounds 3 true).getD 5 false=listed.getD 5 false:=by rw [listed_get hlt,if_neg (by decide)]
   have eLe:(listed.setIfInBounds 3 true).getD 6 false=listed.getD 6 false:=by rw [listed_get hlt,if_neg (by decide)]
   have eLx:(listed.setIfInBounds 3 true).getD 10 false=listed.getD 10 false:=by rw [listed_get hlt,if_neg (by decide)]
   have eLs:(listed.setIfInBounds 3 true).getD 12 false=listed.getD 12 false:=by rw [listed_get hlt,if_neg (by decide)]
   have keep:W4 w1 n xs x t er ix γ ((listed.setIfInBounds 3 true).getD 0 false) ((listed.setIfInBounds 3 true).getD 2 false) ((listed.setIfInBounds 3 true).getD 4 false) ((listed.setIfInBounds 3 true).getD 5 false) ((listed.setIfInBounds 3 true).getD 6 false) ((listed.setIfInBounds 3 true).getD 10 false) ((listed.setIfInBounds 3 true).getD 12 false) w:=by rw [eLa,eLb,eLc,eLd,eLe,eLx,eLs];exact hW
   have e:a.eval (.tmp 3)=.pointer (some ⟨bm,0,none⟩):=(h.old (t:=3) (by kernel_rfl)).trans h3
   refine wp_run _ ?_ ⟨γ,fun _ _ => rfl,rfl,keep,step (.inr (fun h => by omega))⟩
   have q:=ld_memT w bm x (hbox.below hW.bel hbox.lt);simp [execOp,hop,e,q,Result.andThen,l4V]
  ·obtain ⟨o',ho',hop,hdst⟩:=last4_op4
   obtain rfl:=same ho' rfl;have eLa:(listed.setIfInBounds 4 true).getD 0 false=listed.getD 0 false:=by rw [listed_get hlt,if_neg (by decide)]
   have eLb:(listed.setIfInBounds 4 true).getD 2 false=listed.getD 2 false:=by rw [listed_get hlt,if_neg (by decide)]
   have eLc:(listed.setIfInBounds 4 true).getD 4 false=true:=by rw [listed_get hlt,if_pos rfl]
   have eLd:(listed.setIfInBounds 4 true).getD 5 false=listed.getD 5 false:=by rw [listed_get hlt,if_neg (by decide)]
   have eLe:(listed.setIfInBounds 4 true).getD 6 false=listed.getD 6 false:=by rw [listed_get hlt,if_neg (by decide)]
   have eLx:(listed.setIfInBounds 4 true).getD 10 false=listed.getD 10 false:=by rw [listed_get hlt,if_neg (by decide)]
   have eLs:(listed.setIfInBounds 4 true).getD 12 false=listed.getD 12 false:=by rw [listed_get hlt,if_neg (by decide)]
   have x0:a.eval (.tmp 43)=.agg x.cs:=(h.get ho hdep (i:=3) (d:=43) (by kernel_rfl) rfl)
   have q:=bs_memTY w x;have hr:(execOp a.eval o').run Tryd.prog w=.ok (.value (.slice (some ⟨w.heap.size,0,none⟩) 1 1)) (w.alloc (.cells x.cs 45)):=by simp [execOp,hop,x0,q,Result.andThen]
   have hba:Below w.heap.size w (w.alloc (.cells x.cs 45)):=(Below.refl _ w).alloc (Nat.le_refl _) _;have hG:=hW.grow hba
   have nd:listed.getD 5 false=false:=by
    cases hx:listed.getD 5 false with
    | false => rfl
    | true => have:=hW.cc hx;rw [hlf] at this;cases this
   unfold Oper.wp;rw [hr,Oper.upon_value];refine ⟨{ γ with vc:=.slice (some ⟨w.heap.size,0,none⟩) 1 1 },fun i hi => l4V_vc _ _ _ _ _ _ (hne i hi),rfl,?_,step (.inr (fun h => by omega))⟩
   rw [eLa,eLb,eLc,eLd,eLe,eLx,eLs]
   exact { bel:=hG.bel,ra:=hG.ra,rb:=hG.rb,rc:=fun _ _ => ⟨w.heap.size,rfl,Blk.new w _ _,hW.bel.size,fun h1 h2 e => by
            have:=(World.ownsRow.lt (hW.ra h1 h2) _ e).2
            omega⟩
           rd:=hG.rd,rr:=hG.rr,rx:=hG.rx,cd:=hG.cd,cc:=fun _ => rfl,ce:=hG.ce,cs:=hG.cs }
  ·obtain ⟨o',ho',hop,hdst⟩:=last4_op5
   obtain rfl:=same ho' rfl;have eLa:(listed.setIfInBounds 5 true).getD 0 false=listed.getD 0 false:=by rw [listed_get hlt,if_neg (by decide)]
   have eLb:(listed.setIfInBounds 5 true).getD 2 false=listed.getD 2 false:=by rw [listed_get hlt,if_neg (by decide)]
   have eLc:(listed.setIfInBounds 5 true).getD 4 false=listed.getD 4 false:=by rw [listed_get hlt,if_neg (by decide)]
   have eLd:(listed.setIfInBounds 5 true).getD 5 false=true:=by rw [listed_get hlt,if_pos rfl]
   have eLe:(listed.setIfInBounds 5 true).getD 6 false=listed.getD 6 false:=by rw [listed_get hlt,if_neg (by decide)]
   have eLx:(listed.setIfInBounds 5 true).getD 10 false=listed.getD 10 false:=by rw [listed_get hlt,if_neg (by decide)]
   have eLs:(listed.setIfInBounds 5 true).getD 12 false=listed.getD 12 false:=by rw [listed_get hlt,if_neg (by decide)]
   have x0:a.eval (.tmp 42)=γ.vb:=(h.get ho hdep (i:=2) (d:=42) (by kernel_rfl) rfl)
   have x1:a.eval (.tmp 44)=γ.vc:=(h.get ho hdep (i:=4) (d:=44) (by kernel_rfl) rfl)
   have lb:listed.getD 2 false=true:=dep_listed ho hdep (by kernel_rfl)
   have lc:listed.getD 4 false=true:=dep_listed ho hdep (by kernel_rfl)
   have ne6:listed.getD 6 false=false:=by
    cases hx:listed.getD 6 false with
    | false => rfl
    | true => have:=hW.ce hx;rw [hlf] at this;cases this
   have hrb:=hW.rb lb hlf;obtain ⟨b,e1,e2,e3,_⟩:=hW.rc lc hlf;rw [e1] at x1;refine wp_appM _ _ hop w1.heap.size γ.vb n xs hmem.1 x0 hrb (some ⟨b,0,none⟩) 1 1 [x] x1 (mems_oneT e2 (hbod.below hW.bel)) (by omega) hW.bel.size (fun v' w' h1 h2 => ⟨{ γ with vd:=v' },fun i hi => l4V_vd _ _ _ _ _ _ (hne i hi),rfl,?_,step (.inr (fun h => by omega))⟩)
   rw [eLa,eLb,eLc,eLd,eLe,eLx,eLs];have hK:Kept (fun b => γ.vb.ownBlock=some b) w w':=(Kept.refl _ w).grown h2 (fun k hk => .inr hk)
   have hbw:Below w1.heap.size w1 w':=hW.bel.trans (hK.below hW.bel.size (fun k hk => (World.ownsRow.lt hrb _ hk).1))
   exact { bel:=hbw,ra:=fun _ hx => absurd lb (by rw [hx];decide),rb:=fun _ hx => (by cases hx),rc:=fun _ hx => (by cases hx),rd:=fun _ _ => by
            obtain ⟨p,c,g1,_,_,g4⟩:=mems_own h1 (fun y hy => by
             rcases List.mem_append.1 hy with hy | hy
             ·exact (hmem.2.1 y hy).below hbw
             ·rw [List.mem_singleton.1 hy];exact hbod.below hbw)
            rw [List.length_append,hmem.1] at g1 g4;exact ⟨p,c,g1,g4⟩
           rr:=fun hx => absurd hx (by rw [ne6];decide),rx:=fun h3 => ⟨(hW.rx h3).1,blk_grownT (hW.rx h3).2 h2 (own_flt_ne hrb (hW.rx h3).2)⟩,cd:=fun _ => lb,cc:=fun _ => lc,ce:=fun _ => rfl,cs:=hW.cs }
  ·obtain ⟨o',ho',hop,hdst⟩:=last4_op6
   obtain rfl:=same ho' rfl;have eLa:(listed.setIfInBounds 6 true).getD 0 false=listed.getD 0 false:=by rw [listed_get hlt,if_neg (by decide)]
   have eLb:(listed.setIfInBounds 6 true).getD 2 false=listed.getD 2 false:=by rw [listed_get hlt,if_neg (by decide)]
   have eLc:(listed.setIfInBounds 6 true).getD 4 false=listed.getD 4 false:=by rw [listed_get hlt,if_neg (by decide)]
   have eLd:(listed.setIfInBounds 6 true).getD 5 false=listed.getD 5 false:=by rw [listed_get hlt,if_neg (by decide)]
   have eLe:(listed.setIfInBounds 6 true).getD 6 false=true:=by rw [listed_get hlt,if_pos rfl]
   have eLx:(listed.setIfInBounds 6 true).getD 10 false=listed.getD 10 false:=by rw [listed_get hlt,if_neg (by decide)]
   have eLs:(listed.setIfInBounds 6 true).getD 12 false=listed.getD 12 false:=by rw [listed_get hlt,if_neg (by decide)]
   have x0:a.eval (.tmp 45)=γ.vd:=(h.get ho hdep (i:=5) (d:=45) (by kernel_rfl) rfl)
   have ld:listed.getD 5 false=true:=dep_listed ho hdep (by kernel_rfl)
   obtain ⟨p,c,e1,e2⟩:=hW.rd ld hlf;rw [e1] at x0
   have ns:listed.getD 12 false=false:=by
    cases hx:listed.getD 12 false with
    | false => rfl
    | true => have:=(hW.cs hx).1;rw [hlf] at this;cases this
   have dep7:∀ k,(k=7 ∨ k=8 ∨ k=11) → listed.getD k false=true → False:=fun k hk hl => by
    have:=hC k hk hl;rw [hlf] at this
    cases this
   refine wp_callE _ _ _ hop #[.slice p (n+1) c] (by simp [x0]) (enters_of Tryd.func10 (by kernel_rfl) rfl) (fun v w' => ∃ q d zs,v=.tuple #[.slice q t.length d,.agg #[.int .i64 er,.int .i64 ix]]∧zs.map NP.m=t∧NodesAt w' q t.length zs∧Below w.heap.size w w') ((hcall w p c hW.bel e2).mono fun e w' he => by
    obtain ⟨q,d,zs,rfl,g1,g2,g3⟩:=he
    exact ⟨_,rfl,q,d,zs,rfl,g1,g2,g3⟩) (fun v w' hR => ?_)
   obtain ⟨q,d,zs,rfl,g1,g2,g3⟩:=hR;have hG:=hW.grow g3;refine ⟨{ γ with vr:=.slice q t.length d },fun i hi => l4V_vr _ _ _ _ _ _ ⟨hne i hi,fun e => dep7 i (.inl e) hi,fun e => dep7 i (.inr (.inl e)) hi,fun e => dep7 i (.inr (.inr e)) hi⟩,rfl,?_,step (.inl rfl)⟩
   rw [eLa,eLb,eLc,eLd,eLe,eLx,eLs];exact { bel:=hG.bel,ra:=hG.ra,rb:=hG.rb,rc:=hG.rc,rd:=fun _ hx => (by cases hx),rr:=fun _ => ⟨q,d,zs,rfl,g1,g2⟩,rx:=hG.rx,cd:=hG.cd,cc:=hG.cc,ce:=fun _ => ld,cs:=fun hx => absurd hx (by rw [ns];decide) }
  ·obtain ⟨o',ho',hop,hdst⟩:=last4_op7
   obtain rfl:=same ho' rfl;have eLa:(listed.setIfInBounds 7 true).getD 0 false=listed.getD 0 false:=by rw [listed_get hlt,if_neg (by decide)]
   have eLb:(listed.setIfInBounds 7 true).getD 2 false=listed.getD 2 false:=by rw [listed_get hlt,if_neg (by decide)]
   have eLc:(listed.setIfInBounds 7 true).getD 4 false=listed.getD 4 false:=by rw [listed_get hlt,if_neg (by decide)]
   have eLd:(listed.setIfInBounds 7 true).getD 5 false=listed.getD 5 false:=by rw [listed_get hlt,if_neg (by decide)]
   have eLe:(listed.setIfInBounds 7 true).getD 6 false=listed.getD 6 false:=by rw [listed_get hlt,if_neg (by decide)]
   have eLx:(listed.setIfInBounds 7 true).getD 10 false=listed.getD 10 false:=by rw [listed_get hlt,if_neg (by decide)]
   have eLs:(listed.setIfInBounds 7 true).getD 12 false=listed.getD 12 false:=by rw [listed_get hlt,if_neg (by decide)]
   have keep:W4 w1 n xs x t er ix γ ((listed.setIfInBounds 7 true).getD 0 false) ((listed.setIfInBounds 7 true).getD 2 false) ((listed.setIfInBounds 7 true).getD 4 false) ((listed.setIfInBounds 7 true).getD 5 false) ((listed.setIfInBounds 7 true).getD 6 false) ((listed.setIfInBounds 7 true).getD 10 false) ((listed.setIfInBounds 7 true).getD 12 false) w:=by rw [eLa,eLb,eLc,eLd,eLe,eLx,eLs];exact hW
   exact wp_move _ _ (Or.inl hop) (h.get ho hdep (i:=6) (d:=46) (by kernel_rfl) rfl) ⟨γ,fun _ _ => rfl,rfl,keep,step (.inr (fun _ => dep_listed ho hdep (by kernel_rfl)))⟩
  ·obtain ⟨o',ho',hop,hdst⟩:=last4_op8
   obtain rfl:=same ho' rfl;have eLa:(listed.setIfInBounds 8 true).getD 0 false=listed.getD 0 false:=by rw [listed_get hlt,if_neg (by decide)]
   have eLb:(listed.setIfInBounds 8 true).getD 2 false=listed.getD 2 false:=by rw [listed_get hlt,if_neg (by decide)]
   have eLc:(listed.setIfInBounds 8 true).getD 4 false=listed.getD 4 false:=by rw [listed_get hlt,if_neg (by decide)]
   have eLd:(listed.setIfInBounds 8 true).getD 5 false=listed.getD 5 false:=by rw [listed_get hlt,if_neg (by decide)]
   have eLe:(listed.setIfInBounds 8 true).getD 6 false=listed.getD 6 false:=by rw [listed_get hlt,if_neg (by decide)]
   have eLx:(listed.setIfInBounds 8 true).getD 10 false=listed.getD 10 false:=by rw [listed_get hlt,if_neg (by decide)]
   have eLs:(listed.setIfInBounds 8 true).getD 12 false=listed.getD 12 false:=by rw [listed_get hlt,if_neg (by decide)]
   have keep:W4 w1 n xs x t er ix γ ((listed.setIfInBounds 8 true).getD 0 false) ((listed.setIfInBounds 8 true).getD 2 false) ((listed.setIfInBounds 8 true).getD 4 false) ((listed.setIfInBounds 8 true).getD 5 false) ((listed.setIfInBounds 8 true).getD 6 false) ((listed.setIfInBounds 8 true).getD 10 false) ((listed.setIfInBounds 8 true).getD 12 false) w:=by rw [eLa,eLb,eLc,eLd,eLe,eLx,eLs];exact hW
   have e:a.eval (.tmp 39)=.tuple #[γ.vr,.agg #[.int .i64 er,.int .i64 ix]]:=(h.get ho hdep (i:=7) (d:=39) (by kernel_rfl) rfl)
   refine wp_run _ ?_ ⟨γ,fun _ _ => rfl,rfl,keep,step (.inr (fun _ => hC 7 (.inl rfl) (dep_listed ho hdep (by kernel_rfl))))⟩
   generalize a.eval=ev at e ⊢;simp [go_sem,execOp,hop,e,l4V]
  ·obtain ⟨o',ho',hop,hdst⟩:=last4_op9
   obtain rfl:=same ho' rfl;have eLa:(listed.setIfInBounds 9 true).getD 0 false=listed.getD 0 false:=by rw [listed_get hlt,if_neg (by decide)]
   have eLb:(listed.setIfInBounds 9 true).getD 2 false=listed.getD 2 false:=by rw [listed_get hlt,if_neg (by decide)]
   have eLc:(listed.setIfInBounds 9 true).getD 4 false=listed.getD 4 false:=by rw [listed_get hlt,if_neg (by decide)]
   have eLd:(listed.setIfInBounds 9 true).getD 5 false=listed.getD 5 false:=by rw [listed_get hlt,if_neg (by decide)]
   have eLe:(listed.setIfInBounds 9 true).getD 6 false=listed.getD 6 false:=by rw [listed_get hlt,if_neg (by decide)]
   have eLx:(listed.setIfInBounds 9 true).getD 10 false=listed.getD 10 false:=by rw [listed_get hlt,if_neg (by decide)]
   have eLs:(listed.setIfInBounds 9 true).getD 12 false=listed.getD 12 false:=by rw [listed_get hlt,if_neg (by decide)]
   have keep:W4 w1 n xs x t er ix γ ((listed.setIfInBounds 9 true).getD 0 false) ((listed.setIfInBounds 9 true).getD 2 false) ((listed.setIfInBounds 9 true).getD 4 false) ((listed.setIfInBounds 9 true).getD 5 false) ((listed.setIfInBounds 9 true).getD 6 false) ((listed.setIfInBounds 9 true).getD 10 false) ((listed.setIfInBounds 9 true).getD 12 false) w:=by rw [eLa,eLb,eLc,eLd,eLe,eLx,eLs];exact hW
   have e:a.eval (.tmp 39)=.tuple #[γ.vr,.agg #[.int .i64 er,.int .i64 ix]]:=(h.get ho hdep (i:=7) (d:=39) (by kernel_rfl) rfl)
   refine wp_run _ ?_ ⟨γ,fun _ _ => rfl,rfl,keep,step (.inr (fun h => by omega))⟩
   generalize a.eval=ev at e ⊢;simp [go_sem,execOp,hop,e,l4V]
  ·obtain ⟨o',ho',hop,hdst⟩:=last4_op10
   obtain rfl:=same ho' rfl;have eLa:(listed.setIfInBounds 10 true).getD 0 false=listed.getD 0 false:=by rw [listed_get hlt,if_neg (by decide)]
   have eLb:(listed.setIfInBounds 10 true).getD 2 false=listed.getD 2 false:=by rw [listed_get hlt,if_neg (by decide)]
   have eLc:(listed.setIfInBounds 10 true).getD 4 false=listed.getD 4 false:=by rw [listed_get hlt,if_neg (by decide)]
   have eLd:(listed.setIfInBounds 10 true).getD 5 false=listed.getD 5 false:=by rw [listed_get hlt,if_neg (by decide)]
   have eLe:(listed.setIfInBounds 10 true).getD 6 false=listed.getD 6 false:=by rw [listed_get hlt,if_neg (by decide)]
   have eLx:(listed.setIfInBounds 10 true).getD 10 false=true:=by rw [listed_get hlt,if_pos rfl]
   have eLs:(listed.setIfInBounds 10 true).getD 12 false=listed.getD 12 false:=by rw [listed_get hlt,if_neg (by decide)]
   have q:=al_flt w;have hr:(execOp a.eval o').run Tryd.prog w=.ok (.value (.pointer (some ⟨w.heap.size,0,none⟩))) (w.alloc (.cells #[.int .i64 0,.int .i64 0] 28)):=by simp [execOp,hop,q,Result.andThen]
   have hba:Below w.heap.size w (w.alloc (.cells #[.int .i64 0,.int .i64 0] 28)):=(Below.refl _ w).alloc (Nat.le_refl _) _;have hG:=hW.grow hba
   have hls:listed.getD 12 false=false:=by
    cases hx:listed.getD 12 false with
    | false => rfl
    | true => have:=(hW.cs hx).2;rw [hlf] at this;cases this
   unfold Oper.wp;rw [hr,Oper.upon_value];refine ⟨{ γ with bx:=w.heap.size },fun i hi => l4V_bx _ _ _ _ _ _ (hne i hi),rfl,?_,step (.inr (fun h => by omega))⟩
   rw [eLa,eLb,eLc,eLd,eLe,eLx,eLs]
   exact { bel:=hG.bel,ra:=hG.ra,rb:=hG.rb,rc:=hG.rc,rd:=hG.rd,rr:=hG.rr,rx:=fun _ => by
            rw [hls];exact ⟨hW.bel.size,Blk.new w _ _⟩
           cd:=hG.cd,cc:=hG.cc,ce:=hG.ce,cs:=fun h1 => ⟨(hW.cs h1).1,rfl⟩ }
  ·obtain ⟨o',ho',hop,hdst⟩:=last4_op11
   obtain rfl:=same ho' rfl;have eLa:(listed.setIfInBounds 11 true).getD 0 false=listed.getD 0 false:=by rw [listed_get hlt,if_neg (by decide)]
   have eLb:(listed.setIfInBounds 11 true).getD 2 false=listed.getD 2 false:=by rw [listed_get hlt,if_neg (by decide)]
   have eLc:(listed.setIfInBounds 11 true).getD 4 false=listed.getD 4 false:=by rw [listed_get hlt,if_neg (by decide)]
   have eLd:(listed.setIfInBounds 11 true).getD 5 false=listed.getD 5 false:=by rw [listed_get hlt,if_neg (by decide)]
   have eLe:(listed.setIfInBounds 11 true).getD 6 false=listed.getD 6 false:=by rw [listed_get hlt,if_neg (by decide)]
   have eLx:(listed.setIfInBounds 11 true).getD 10 false=listed.getD 10 false:=by rw [listed_get hlt,if_neg (by decide)]
   have eLs:(listed.setIfInBounds 11 true).getD 12 false=listed.getD 12 false:=by rw [listed_get hlt,if_neg (by decide)]
   have keep:W4 w1 n xs x t er ix γ ((listed.setIfInBounds 11 true).getD 0 false) ((listed.setIfInBounds 11 true).getD 2 false) ((listed.setIfInBounds 11 true).getD 4 false) ((listed.setIfInBounds 11 true).getD 5 false) ((listed.setIfInBounds 11 true).getD 6 false) ((listed.setIfInBounds 11 true).getD 10 false) ((listed.setIfInBounds 11 true).getD 12 false) w:=by rw [eLa,eLb,eLc,eLd,eLe,eLx,eLs];exact hW
   exact wp_move _ _ (Or.inr hop) (h.get ho hdep (i:=8) (d:=47) (by kernel_rfl) rfl) ⟨γ,fun _ _ => rfl,rfl,keep,step (.inr (fun _ => hC 8 (.inr (.inl rfl)) (dep_listed ho hdep (by kernel_rfl))))⟩
  ·obtain ⟨o',ho',hop,hdst⟩:=last4_op12
   obtain rfl:=same ho' rfl;have eLa:(listed.setIfInBounds 12 true).getD 0 false=listed.getD 0 false:=by rw [listed_get hlt,if_neg (by decide)]
   have eLb:(listed.setIfInBounds 12 true).getD 2 false=listed.getD 2 false:=by rw [listed_get hlt,if_neg (by decide)]
   have eLc:(listed.setIfInBounds 12 true).getD 4 false=listed.getD 4 false:=by rw [listed_get hlt,if_neg (by decide)]
   have eLd:(listed.setIfInBounds 12 true).getD 5 false=listed.getD 5 false:=by rw [listed_get hlt,if_neg (by decide)]
   have eLe:(listed.setIfInBounds 12 true).getD 6 false=listed.getD 6 false:=by rw [listed_get hlt,if_neg (by decide)]
   have eLx:(listed.setIfInBounds 12 true).getD 10 false=listed.getD 10 false:=by rw [listed_get hlt,if_neg (by decide)]
   have eLs:(listed.setIfInBounds 12 true).getD 12 false=true:=by rw [listed_get hlt,if_pos rfl]
   have e0:a.eval (.tmp 8)=.pointer (some ⟨γ.bx,0,none⟩):=(h.get ho hdep (i:=10) (d:=8) (by kernel_rfl) rfl)
   have e1:a.eval (.tmp 48)=.agg #[.int .i64 er,.int .i64 ix]:=(h.get ho hdep (i:=9) (d:=48) (by kernel_rfl) rfl)
   have lx:listed.getD 10 false=true:=dep_listed ho hdep (by kernel_rfl)
   have le:listed.getD 6 false=true:=dep_listed ho hdep (by kernel_rfl)
   have ld:=hW.ce le;have lb:=hW.cd ld;obtain ⟨hge,hb⟩:=hW.rx lx;rw [hlf,if_neg (by decide)] at hb
   refine wp_storeF _ _ hop γ.bx e0 er ix 0 0 e1 hb (fun w' hb' hk => ⟨γ,fun _ _ => rfl,rfl,?_,step (.inr (fun h => by omega))⟩)
   rw [eLa,eLb,eLc,eLd,eLe,eLx,eLs]
   exact { bel:=hW.bel.trans (hk.below hW.bel.size (fun k hk => by rw [show k=γ.bx from hk];exact hge)),ra:=fun _ hx => absurd lb (by rw [hx];decide),rb:=fun _ hx => absurd ld (by rw [hx];decide),rc:=fun _ hx => absurd ld (by rw [hx];decide),rd:=fun _ hx => absurd le (by rw [hx];decide),rr:=fun _ => by
            obtain ⟨q,d,zs,g1,g2,g3⟩:=hW.rr le;exact ⟨q,d,zs,g1,g2,nodes_off hb g3 hk⟩
           rx:=fun _ => ⟨hge,by rw [if_pos rfl];exact hb'⟩,cd:=hW.cd,cc:=hW.cc,ce:=hW.ce,cs:=fun _ => ⟨le,lx⟩ }
 ·intro γ listed a w h hall
  have all:∀ j,j < 13 → listed.getD j false=true:=fun j hj => hall j (by rw [last4_size];exact hj)
  have hW:=h.wd.1;obtain ⟨hge,hb⟩:=hW.rx (all 10 (by omega))
  rw [all 12 (by omega),if_pos rfl] at hb
  rw [done_putAllG 156 last4_apart hsz h hall,last4_size];simp only [putAll,last4_dst0,last4_dst1,last4_dst2,last4_dst3,last4_dst4,last4_dst5,last4_dst6,last4_dst7,last4_dst8,last4_dst9,last4_dst10,last4_dst11,last4_dst12,put_none,l4V];exact hQ γ w hW.bel (hW.rr (all 6 (by omega))) hb
 ·refine ⟨{ bel:=(Below.refl _ w1).drew,ra:=fun hx => (by rw [no] at hx;cases hx),rb:=fun hx => (by rw [no] at hx;cases hx),rc:=fun hx => (by rw [no] at hx;cases hx),rd:=fun hx => (by rw [no] at hx;cases hx),rr:=fun hx => (by rw [no] at hx;cases hx),rx:=fun hx => (by rw [no] at hx;cases hx),cd:=fun hx => (by rw [no] at hx;cases hx),cc:=fun hx => (by rw [no] at hx;cases hx),ce:=fun hx => (by rw [no] at hx;cases hx),cs:=fun hx => (by rw [no] at hx;cases hx) },fun k _ hx => (by rw [no] at hx;cases hx)⟩
end Go.Proofs.YthaoohbdjlbaeaaDoor.Tre
end
