/- Texts of this seat, merged: what the proof reaches. -/
import Derived.Test.YthaoohbdjlbaeaaDoorTreeFoldsX6
import Derived.Test.YthaoohbdjlbaeaaDoorTreeFoldsX19
import Derived.Deep.DeepCutAuto
import Derived.Carry
import Derived.StillTailTactics
import Derived.Laws.ResultCell
import Derived.Test.YthaoohbdjlbaeaaDoorTreeFoldsX20
import Derived.Test.YthaoohbdjlbaeaaDoorTreeFoldsX16
import Derived.Test.YthaoohbdjlbaeaaDoorTreeFoldsX17
import Derived.BigQuiet
namespace Go.Proofs.YthaoohbdjlbaeaaDoor
namespace Base
end Base
namespace Bk
end Bk
namespace Block
end Block
namespace Byt
end Byt
namespace Mem
end Mem
namespace Mk
end Mk
namespace Rec
end Rec
namespace Txt
end Txt
end Go.Proofs.YthaoohbdjlbaeaaDoor
section
namespace Go.Proofs.YthaoohbdjlbaeaaDoor.Tre
open Go.ChangeShapes Go.WideShapes Go.ChangeAt Go.RowKit Base Byt Txt Bk Mk Mem Go.Lib
set_option linter.unusedVariables false
set_option maxRecDepth 100000
theorem kind_ne1 (k:UInt8) (n:UInt8) (z:Int) (hz:(n.toNat:Int)=z):(((k.toNat:Int)) == z)=decide (k=n):=by
 subst hz
 by_cases h:k=n
 ·simp [h]
 ·have:¬ k.toNat=n.toNat:=fun hh => h (UInt8.toNat.inj hh)
  simp only [h,decide_false,beq_eq_false_iff_ne,ne_eq];omega
theorem kind_nq1 (k:UInt8) (n:UInt8) (z:Int) (hz:(n.toNat:Int)=z):(((k.toNat:Int)) != z)=!decide (k=n):=by
 rw [← kind_ne1 k n z hz];rfl
def numsK (f:List UInt8 → Option Nat):List UInt8 → Option Value:=fun x => (f x).map fun n => .int .i64 (n:Int)
structure LayAt (W:World) (g B:Nat) (p:Option Addr) (n c:Nat) (f:List UInt8 → Option Nat):Prop where
 obj:Blk W g 77 #[.slice p n c,.map (some B)]
 map:MapK strK W B (numsK f)
theorem blk_not_map {W:World} {g B:Nat} {t:TypeId} {cs:Array Value} {α:Type} {K:Keying α} {f:α → Option Value} (h:Blk W g t cs) (hm:MapK K W B f):g≠B:=fun e => by
 obtain ⟨es,clock,hb,_⟩:=hm;subst e;have h':W.heap[g]? = some (.cells cs t (0,0)):=h;rw [h'] at hb
 cases hb
theorem LayAt.below {W W':World} {g B:Nat} {p:Option Addr} {n c:Nat} {f:List UInt8 → Option Nat} (h:LayAt W g B p n c f) (hb:Below W.heap.size W W'):LayAt W' g B p n c f:=
 ⟨h.obj.below hb h.obj.lt,h.map.kept (Kept.of_below hb noneB) (fun h => h.elim)⟩
def NewLayPost (w:World) (p:Option Addr) (n c:Nat) (e:Ending) (w':World):Prop:=
 ∃ g B,e=.returned (.pointer (some ⟨g,0,none⟩))∧LayAt w' g B p n c (fun _ => none)∧w.heap.size≤g∧w.heap.size≤B∧Below w.heap.size w w'
set_option maxHeartbeats 1000000 in
theorem newLay_any (p:Option Addr) (n c:Nat) (w:World) :
 Calls Tryd.prog 27 #[.slice p n c] w (NewLayPost w p n c):=by
 have hmm:=@run_makeMap Tryd.prog
 go_enter Tryd.func27,Tryd.ntmps27
 go_wp2
 go_ret
 have hM:=(mapK_made strK w)
 have hb:Blk ((w.alloc (.map #[] 0)).alloc (.cells #[.slice p n c,.map (some w.heap.size)] 77)) (w.heap.size+1) 77 #[.slice p n c,.map (some w.heap.size)]:=by
  have:=Blk.new (w.alloc (.map #[] 0)) 77 #[.slice p n c,.map (some w.heap.size)]
  rwa [World.size_alloc] at this
 refine ⟨w.heap.size+1,w.heap.size,rfl,⟨hb,?_⟩,by omega,Nat.le_refl _,((Below.refl _ _).alloc (Nat.le_refl _) _).alloc (by simp) _⟩
 exact hM.kept ((Kept.refl noneB _).alloc _) (fun h => h.elim)
theorem find_filter {α:Type} (q r:α → Bool) (h:∀ x,r x=true → q x=true) (l:List α):(l.filter q).find? r=l.find? r:=by
 induction l with
 | nil => rfl
 | cons a l ih =>
   rw [List.filter_cons]
   by_cases hq:q a=true
   ·rw [if_pos hq,List.find?_cons,List.find?_cons,ih]
   ·rw [if_neg hq,List.find?_cons,ih]
    have:r a=false:=by
     cases hr:r a with
     | false => rfl
     | true => exact absurd (h a hr) hq
    rw [this]
theorem look_put (S:St) (p x:List UInt8) (n:Nat):look (putS S p n) x=if x=p then some n else look S x:=by
 unfold look putS;rw [List.find?_append]
 by_cases h:x=p
 ·subst h
  rw [if_pos rfl]
  have:(S.filter fun e => !(e.1 == x)).find? (fun e => e.1 == x)=none:=by
   rw [List.find?_eq_none];intro e he;rw [List.mem_filter] at he
   simpa using he.2
  rw [this];simp
 ·rw [if_neg h,find_filter _ _ (fun e he => by
   have:e.1=x:=by simpa using he
   simpa [this] using h)]
  have e1:([(p,n)]:St).find? (fun e => e.1 == x)=none:=by
   have:(p == x)=false:=by simpa using fun e:p=x => h e.symm
   simp [this]
  rw [e1,Option.or_none]
def InS (S:St) (N:Nat):Prop:=∀ e ∈ S,e.2 < N
theorem InS.look {S:St} {N:Nat} (h:InS S N) {x:List UInt8} {n:Nat} (hl:look S x=some n):n < N:=by
 unfold Tre.look at hl;rw [Option.map_eq_some_iff] at hl;obtain ⟨e,he,rfl⟩:=hl;exact h e (List.mem_of_find?_eq_some he)
theorem InS.put {S:St} {N:Nat} (h:InS S N) {p:List UInt8} {n:Nat} (hn:n < N):InS (putS S p n) N:=fun e he => by
 unfold putS at he;rw [List.mem_append,List.mem_filter] at he;rcases he with he | he
 ·exact h e he.1
 ·rw [List.mem_singleton.1 he];exact hn
theorem layD_in {ms:List MemV} {S S':St} {i:Nat} (h:layD ms S i=some S') (hS:InS S ms.length) (hi:i < ms.length):InS S' ms.length:=by
 unfold layD at h
 dsimp only at h
 split at h
 ·split at h
  ·cases h
  ·next n hn =>
   split at h
   ·cases h;exact hS.put (hS.look hn)
   ·cases h
 ·cases h;exact hS.put hi
def LayPost (W:World) (ms:List MemV) (S:St) (i g B:Nat) (p:Option Addr) (n c:Nat) (e:Ending) (w':World):Prop:=
 e=.returned (.bool (layD ms S i).isSome)∧LayAt w' g B p n c (look ((layD ms S i).getD S))∧Kept (oneB B) W w'
theorem numsK_put (S:St) (x:List UInt8) (n:Nat):numsK (look (putS S x n))=fun y => if y=x then some (.int .i64 (n:Int)) else numsK (look S) y:=by
 funext y
 unfold numsK;rw [look_put]
 by_cases h:y=x<;>simp [h]
set_option maxHeartbeats 4000000 in
theorem lay_any (w:World) (g B:Nat) (p:Option Addr) (n c:Nat) (xs:List MP) (S:St) (i:Nat) (W:World) (hM:MemsAt w p n xs) (hb:Below w.heap.size w W) (hB:w.heap.size≤B) (hn:n≤1000000000) (hi:i < n) (hS:InS S n) (hL:LayAt W g B p n c (look S)) :
 Calls Tryd.prog 28 #[.pointer (some ⟨g,0,none⟩),.int .i64 (i:Int)] W (LayPost W (xs.map MP.m) S i g B p n c):=by
 have HL:=Lib.hid hM.1;have hgB:=blk_not_map hL.obj hL.map;have hM1:=hM.below hb;obtain ⟨b1,o1,rfl,hb1,hB1,hc1⟩:=hM1.cells8 hi;have hG0:=getM_map xs i;obtain ⟨y,hy⟩:∃ y,xs.getD i zeroP=y:=⟨_,rfl⟩;rw [hy] at hB1 hc1 hG0;obtain ⟨W1,hW1⟩:∃ W1,W.alloc (.cells y.cs 45)=W1:=⟨_,rfl⟩;have hBW:Below W.heap.size W W1:=by rw [← hW1];exact (Below.refl _ _).alloc (Nat.le_refl _) _
 have hY:Blk W1 W.heap.size 45 y.cs:=by rw [← hW1];exact Blk.new W _ _
 have hL1:=hL.below hBW;have HLA:=Lib.hid hL;have HL1:=Lib.hid hL1;have HGB:=Lib.hid hgB;have HBW:=Lib.hid hBW;have HM1:=Lib.hid (hM1.below hBW);have HS:=Lib.hid hS;have HY:=Lib.hid hY;have HLT:=Lib.hid (And.intro hL.obj.lt hL.map.lt);have k0:=hL.obj.cell 0;have g0:=hL1.obj.cell 0;have g1:=hL1.obj.cell 1;have y0:=hY.cell 0;have y1:=hY.cell 1;have y2:=hY.cell 2;simp only [MP.cs,memC,List.getElem?_toArray,List.getElem?_cons_zero,List.getElem?_cons_succ] at k0 g0 g1 y0 y1 y2;have ek:=kind_ne1 y.m.kind 49 49 rfl;obtain ⟨kn,hkn⟩:∃ k:Int,(y.m.kind.toNat:Int)=k:=⟨_,rfl⟩
 obtain ⟨c0,c1,c2,c3,c4,c5,c6,c7⟩:=hc1;unfold MP.cs memC at hW1;rw [hkn] at hW1 y2 c2 ek;have HG0:=Lib.hid hG0;have hiz:(i:Int) < (n:Int):=by omega
 have hi0:(0:Int)≤(i:Int):=by omega
 clear hM hb hM1 hb1 hB1 hy hBW hY hL hL1 hgB hS hkn hG0
 go_enter Tryd.func28,Tryd.ntmps28
 go_upto_region 2 with fail
 clear c0 c1 c2 c3 c4 c5 c6 c7 hW1
 by_cases h49:y.m.kind=49
 ·rw [decide_eq_true h49] at ek
  have hlk:=HL1.out.map.look_ok (P:=Tryd.prog) Tryd.underlying75 Tryd.underlying9 (z:=.int .i64 0) (fun w => Tryd.zeroValue3 w) y.m.target
  have HLK:Hid (∀ q:Since W1,(Instr.lookup 75 (.map (some B)) (.string (str y.m.target)) true).run Tryd.prog q.w'=.ok (.tuple #[(numsK (look S) y.m.target).getD (.int .i64 0),.bool (numsK (look S) y.m.target).isSome]) q.w'):=Lib.hid (fun q =>
   (HL1.out.map.kept (Kept.of_below q.bel noneB) (fun h => h.elim)).look_ok (P:=Tryd.prog) Tryd.underlying75 Tryd.underlying9 (z:=.int .i64 0) (fun w => Tryd.zeroValue3 w) y.m.target)
  clear hlk;obtain ⟨fo,hfo⟩:∃ fo,look S y.m.target=fo:=⟨_,rfl⟩;have HFO:=Lib.hid hfo;unfold numsK at HLK;rw [hfo] at HLK;have H49:=Lib.hid h49;clear hfo h49
  cases fo with
  | none =>
    have E:Hid (layD (xs.map MP.m) S i=none):=Lib.hid (by
     unfold layD;rw [HG0.out]
     dsimp only
     rw [if_pos H49.out,HFO.out])
    have lk:∀ m,(Instr.lookup 75 (.map (some B)) (.string (str y.m.target)) true).run Tryd.prog (W1.drewN m)=.ok (.tuple #[.int .i64 0,.bool false]) (W1.drewN m):=fun m => HLK.out ⟨W1.drewN m,below_drewN (Below.refl _ _) m⟩
    go_wp2_with fail
    go_quiet (fail)
    go_wp2
    go_ret
    exact ⟨by rw [E.out];rfl,by rw [E.out];exact HL1.out.below (below_drewN (Below.refl _ _) _),(Kept.of_below HBW.out (oneB B)).drewN _⟩
  | some n0 =>
    have hn0:n0 < n:=HS.out.look HFO.out;obtain ⟨b2,o2,hp2,hb2,hB2,hc2⟩:=HM1.out.cells8 hn0;simp only [Option.some.injEq,Addr.mk.injEq,and_true] at hp2;obtain ⟨rfl,rfl⟩:=hp2;have hG2:=getM_map xs n0;obtain ⟨v,hv⟩:∃ v,xs.getD n0 zeroP=v:=⟨_,rfl⟩;rw [hv] at hc2 hG2;have z2:=hc2.2.2.1;have eq8:∀ m,(W1.drewN m).cell? ⟨b1,o1+n0 * 8+2,none⟩=some (.int .u8 (v.m.kind.toNat:Int)):=fun m => z2
    have ev:=kind_nq1 v.m.kind 48 48 rfl;obtain ⟨kv,hkv⟩:∃ k:Int,(v.m.kind.toNat:Int)=k:=⟨_,rfl⟩;rw [hkv] at ev z2 eq8;have HG2:=Lib.hid hG2;have lk:∀ m,(Instr.lookup 75 (.map (some B)) (.string (str y.m.target)) true).run Tryd.prog (W1.drewN m)=.ok (.tuple #[.int .i64 (n0:Int),.bool true]) (W1.drewN m):=fun m => HLK.out ⟨W1.drewN m,below_drewN (Below.refl _ _) m⟩
    have hn0z:(n0:Int) < (n:Int):=by omega
    have hn00:(0:Int)≤(n0:Int):=by omega
    clear hb2 hB2 hc2 hv hkv hG2
    by_cases h48:v.m.kind=48
    ·rw [decide_eq_true h48,Bool.not_true] at ev
     have E:Hid (layD (xs.map MP.m) S i=some (putS S y.m.path n0)):=Lib.hid (by
      unfold layD;rw [HG0.out]
      dsimp only
      rw [if_pos H49.out,HFO.out]
      dsimp only
      rw [HG2.out,if_pos h48])
     clear h48
     go_wp2_with fail
     go_quiet (fail)
     obtain ⟨W2,hW2⟩:∃ W2,W1.drewN nq=W2:=⟨_,rfl⟩;have hL2:=HL1.out.below (below_drewN (Below.refl W1.heap.size W1) nq);have hB2:=HBW.out.trans ((below_drewN (Below.refl W1.heap.size W1) nq).mono HBW.out.size);have hY2:=HY.out.drewN nq;have z2':=eq8 nq;rw [hW2] at hL2 hB2 hY2 z2' ⊢;clear hW2 lk eq8 z2 g0 g1 y0 y1 y2;have g0:=hL2.obj.cell 0;have g1:=hL2.obj.cell 1;have y0:=hY2.cell 0;simp only [MP.cs,memC,List.getElem?_toArray,List.getElem?_cons_zero,List.getElem?_cons_succ] at g0 g1 y0;have HL2:=Lib.hid hL2;have HBW2:=Lib.hid hB2;clear hL2 hB2 hY2
     go_wp2_with fail
     go_still_tail 7,(by kernel_rfl)
     refine wpList_putK (K:=strK) rfl (.tmp 45) (.tmp 47) (.tmp 48) rfl Tryd.underlying75 Tryd.underlying9 B (HL2.out.map.kept (Kept.refl noneB W2).drew id) rfl y.m.path rfl (.int .i64 (n0:Int)) rfl ?_
     intro w5 hm5 hk5 hs5
     have F:Hid (LayAt w5 g B (some ⟨b1,o1,none⟩) n c (look (putS S y.m.path n0))∧Kept (oneB B) W w5):=by
      have hk':Kept (oneB B) W2 w5:=((Kept.refl (oneB B) W2).drew).trans hk5.out;refine Lib.hid ⟨⟨HL2.out.obj.keptS hk' HGB.out,?_⟩,(Kept.of_below HBW2.out (oneB B)).trans hk'⟩;rw [numsK_put];exact hm5.out
     clear hm5 hk5 hs5
     go_wp2
     go_ret
     exact ⟨by rw [E.out];rfl,by rw [E.out];exact F.out.1,F.out.2⟩
    ·rw [decide_eq_false h48,Bool.not_false] at ev
     have E:Hid (layD (xs.map MP.m) S i=none):=Lib.hid (by
      unfold layD;rw [HG0.out]
      dsimp only
      rw [if_pos H49.out,HFO.out]
      dsimp only
      rw [HG2.out,if_neg h48])
     clear h48
     go_wp2_with fail
     go_quiet (fail)
     go_wp2
     go_ret
     exact ⟨by rw [E.out];rfl,by rw [E.out];exact HL1.out.below (below_drewN (Below.refl _ _) _),(Kept.of_below HBW.out (oneB B)).drewN _⟩
 ·rw [decide_eq_false h49] at ek
  have E:Hid (layD (xs.map MP.m) S i=some (putS S y.m.path i)):=Lib.hid (by
   unfold layD;rw [HG0.out]
   dsimp only
   rw [if_neg h49])
  clear h49
  go_wp2_with fail
  go_still_tail 7,(by kernel_rfl)
  refine wpList_putK (K:=strK) rfl (.tmp 45) (.tmp 47) (.tmp 48) rfl Tryd.underlying75 Tryd.underlying9 B (HL1.out.map.kept (Kept.refl noneB W1).drew id) rfl y.m.path rfl (.int .i64 (i:Int)) rfl ?_
  intro w5 hm5 hk5 hs5
  have F:Hid (LayAt w5 g B (some ⟨b1,o1,none⟩) n c (look (putS S y.m.path i))∧Kept (oneB B) W w5):=by
   have hk':Kept (oneB B) W1 w5:=((Kept.refl (oneB B) W1).drew).trans hk5.out;refine Lib.hid ⟨⟨HL1.out.obj.keptS hk' HGB.out,?_⟩,(Kept.of_below HBW.out (oneB B)).trans hk'⟩;rw [numsK_put];exact hm5.out
  clear hm5 hk5 hs5
  go_wp2
  go_ret
  exact ⟨by rw [E.out];rfl,by rw [E.out];exact F.out.1,F.out.2⟩
end Go.Proofs.YthaoohbdjlbaeaaDoor.Tre
end
section
namespace Go.Proofs.YthaoohbdjlbaeaaDoor.Tre
open Mem
set_option linter.unusedVariables false
def Apart (S:St):Prop:=(S.map (·.1)).Nodup
theorem Apart.put {S:St} (h:Apart S) (p:List UInt8) (n:Nat):Apart (putS S p n):=by
 unfold Apart putS at *;rw [List.map_append,List.nodup_append];refine ⟨(List.Sublist.nodup (List.Sublist.map _ (List.filter_sublist)) h),by simp,?_⟩
 intro a ha b hb;simp only [List.map_cons,List.map_nil,List.mem_singleton] at hb;subst hb;rw [List.mem_map] at ha;obtain ⟨e,he,rfl⟩:=ha;rw [List.mem_filter] at he
 simpa using he.2
theorem look_mem {S:St} (h:Apart S) {e:List UInt8 × Nat} (he:e ∈ S):look S e.1=some e.2:=by
 unfold look Apart at *
 induction S with
 | nil => cases he
 | cons a S ih =>
   rw [List.map_cons,List.nodup_cons] at h;rw [List.find?_cons]
   by_cases ha:a.1=e.1
   ·have:(a.1 == e.1)=true:=by simpa using ha
    rw [this];rcases List.mem_cons.1 he with rfl | he'
    ·rfl
    ·exact absurd (List.mem_map.2 ⟨e,he',ha.symm⟩) h.1
   ·have:(a.1 == e.1)=false:=by simpa using ha
    rw [this];rcases List.mem_cons.1 he with rfl | he'
    ·exact absurd rfl ha
    ·exact ih h.2 he'
theorem look_isSome {S:St} (x:List UInt8):(look S x).isSome=true ↔ x ∈ S.map (·.1):=by
 unfold look;rw [Option.isSome_map,List.find?_isSome,List.mem_map];constructor
 ·rintro ⟨e,he,h⟩;exact ⟨e,he,by simpa using h⟩
 ·rintro ⟨e,he,h⟩;exact ⟨e,he,by simpa using h⟩
theorem layD_apart {ms:List MemV} {S S':St} {i:Nat} (h:layD ms S i=some S') (hS:Apart S):Apart S':=by
 unfold layD at h
 dsimp only at h
 split at h
 ·split at h
  ·cases h
  ·split at h
   ·cases h;exact hS.put _ _
   ·cases h
 ·cases h;exact hS.put _ _
theorem laysD_apart (ms:List MemV):∀ k S,laysD ms k=.ok S → Apart S
 | 0,S,h => by cases h;exact List.nodup_nil
 | k+1,S,h => by
   unfold laysD at h
   split at h
   ·cases h
   ·next S0 h0 =>
    split at h
    ·cases h
    ·next S1 h1 => cases h;exact layD_apart h1 (laysD_apart ms k S0 h0)
theorem laysD_in (ms:List MemV):∀ k S,k≤ms.length → laysD ms k=.ok S → InS S ms.length
 | 0,S,_,h => by cases h;intro e he;cases he
 | k+1,S,hk,h => by
   unfold laysD at h
   split at h
   ·cases h
   ·next S0 h0 =>
    split at h
    ·cases h
    ·next S1 h1 => cases h;exact layD_in h1 (laysD_in ms k S0 (by omega) h0) (by omega)
def RiseS (T:St):Prop:=T.Pairwise fun a b => ltB a.1 b.1=true
theorem leS_trans (a b c:List UInt8 × Nat) (h1:leS a b=true) (h2:leS b c=true):leS a c=true:=by
 unfold leS at *;simp only [Bool.not_eq_true'] at *
 cases h:ltB c.1 a.1 with
 | false => rfl
 | true => rw [ltB_le_trans (a:=b.1) (b:=c.1) (c:=a.1) h2 h] at h1;cases h1
theorem leS_total (a b:List UInt8 × Nat):(leS a b || leS b a)=true:=by
 unfold leS
 cases h:ltB b.1 a.1 with
 | false => simp
 | true => rw [ltB_asym h];simp
theorem sortS_perm (S:St):(sortS S).Perm S:=List.mergeSort_perm S leS
theorem sortS_rise {S:St} (h:Apart S):RiseS (sortS S):=by
 have h1:=List.pairwise_mergeSort leS_trans leS_total S;have h2:((sortS S).map (·.1)).Nodup:=((sortS_perm S).map _).nodup_iff.2 h
 have h3:(sortS S).Pairwise fun a b => a.1≠b.1:=(List.pairwise_map (f:=fun e:List UInt8 × Nat => e.1)).1 h2
 refine ((show (sortS S).Pairwise (fun a b => leS a b=true) from h1).and h3).imp fun ⟨h4,h5⟩ => ?_
 unfold leS at h4;exact ltB_of_not (by simpa using h4) (fun e => h5 e.symm)
theorem sortS_only {S T:St} (h:Apart S) (hp:T.Perm S) (hr:RiseS T):T=sortS S:=by
 have hr1:T.Pairwise fun (a b:List UInt8 × Nat) => ltB a.1 b.1=true:=hr
 have hr2:(sortS S).Pairwise fun (a b:List UInt8 × Nat) => ltB a.1 b.1=true:=sortS_rise h
 refine List.Perm.eq_of_pairwise (fun a b _ _ (h1:ltB a.1 b.1=true) (h2:ltB b.1 a.1=true) => ?_) hr1 hr2 (hp.trans (sortS_perm S).symm)
 rw [ltB_asym h1] at h2;cases h2
theorem keys_sort {S:St} (h:Apart S) {ts:List (List UInt8)} (hp:ts.Perm (S.map (·.1))) (hr:ts.Pairwise fun a b => ltB a b=true):sortS S=ts.map fun x => (x,(look S x).getD 0):=by
 symm
 refine sortS_only h ?_ ?_
 ·have:=hp.map fun x => (x,(look S x).getD 0)
  refine this.trans (List.Perm.of_eq ?_);rw [List.map_map]
  conv => rhs;rw [← List.map_id S]
  refine List.map_congr_left fun e he => ?_
  simp only [Function.comp,look_mem h he,Option.getD_some,id]
 ·unfold RiseS
  rw [List.pairwise_map];exact hr
theorem leadD_self {T:St} {k:Nat} (hk:k < T.length) (h:∀ j,j < k → (T.getD j ([],0)).2≠(T.getD k ([],0)).2):leadD T (T.getD k ([],0)).2=(T.getD k ([],0)).1:=by
 unfold leadD;have hg:T.getD k ([],0)=T[k]:=by rw [List.getD,List.getElem?_eq_getElem hk];rfl
 rw [hg] at h ⊢
 have:T.find? (fun e => e.2 == T[k].2)=some T[k]:=by
  rw [List.find?_eq_some_iff_getElem];refine ⟨by simp,k,hk,rfl,fun j hj => ?_⟩
  have:=h j hj;rw [List.getD,List.getElem?_eq_getElem (show j < T.length by omega)] at this
  simpa using this
 rw [this];rfl
def firstAt (T:St) (n:Nat):Option Nat:=T.findIdx? fun e => e.2 == n
theorem leadD_first {T:St} {n f:Nat} (h:firstAt T n=some f):leadD T n=(T.getD f ([],0)).1:=by
 unfold firstAt at h;rw [List.findIdx?_eq_some_iff_getElem] at h;obtain ⟨hf,h1,h2⟩:=h;unfold leadD
 have:T.find? (fun e => e.2 == n)=some T[f]:=by
  rw [List.find?_eq_some_iff_getElem];exact ⟨h1,f,hf,rfl,fun j hj => by simpa using h2 j hj⟩
 rw [this,List.getD,List.getElem?_eq_getElem hf];rfl
theorem firstAt_succ (T:St) (k n:Nat) (hk:k < T.length):firstAt (T.take (k+1)) n=(firstAt (T.take k) n).or (if (T.getD k ([],0)).2=n then some k else none):=by
 unfold firstAt;rw [List.take_succ_eq_append_getElem hk,List.findIdx?_append]
 congr 1
 have hg:T.getD k ([],0)=T[k]:=by rw [List.getD,List.getElem?_eq_getElem hk];rfl
 rw [hg]
 by_cases h:T[k].2=n
 ·simp [h,List.findIdx?_cons]
  omega
 ·have:(T[k].2 == n)=false:=by simpa using h
  simp [h,List.findIdx?_cons,this]
theorem firstAt_more {T:St} {k n f:Nat} (h:firstAt (T.take k) n=some f):firstAt T n=some f:=by
 unfold firstAt at *
 conv => lhs;rw [← List.take_append_drop k T,List.findIdx?_append,h]
 rfl
def leads (ms:List MemV) (T:St) (k n:Nat):Option Nat:=if (ms.getD n zeroMv).kind=48 then firstAt (T.take k) n else none
theorem leads_zero (ms:List MemV) (T:St) (n:Nat):leads ms T 0 n=none:=by
 unfold leads
 split<;>rfl
theorem leads_other {ms:List MemV} {T:St} {k:Nat} (hk:k < T.length) (h:(ms.getD (T.getD k ([],0)).2 zeroMv).kind≠48):leads ms T (k+1)=leads ms T k:=by
 funext n
 unfold leads
 split
 ·next hn =>
  rw [firstAt_succ T k n hk,if_neg (fun e => h (by rw [e];exact hn)),Option.or_none]
 ·rfl
theorem leads_old {ms:List MemV} {T:St} {k f:Nat} (hk:k < T.length) (h:leads ms T k (T.getD k ([],0)).2=some f):leads ms T (k+1)=leads ms T k:=by
 funext n
 unfold leads at *
 split
 ·next hn =>
  rw [firstAt_succ T k n hk]
  by_cases e:(T.getD k ([],0)).2=n
  ·rw [e,if_pos hn] at h
   rw [h];rfl
  ·rw [if_neg e,Option.or_none]
 ·rfl
theorem leads_new {ms:List MemV} {T:St} {k:Nat} (hk:k < T.length) (hf:(ms.getD (T.getD k ([],0)).2 zeroMv).kind=48) (h:leads ms T k (T.getD k ([],0)).2=none):leads ms T (k+1)=fun n => if n=(T.getD k ([],0)).2 then some k else leads ms T k n:=by
 funext n
 unfold leads at *;rw [if_pos hf] at h
 by_cases e:n=(T.getD k ([],0)).2
 ·rw [if_pos e,e,if_pos hf,firstAt_succ T k _ hk,h,if_pos rfl];rfl
 ·rw [if_neg e]
  split
  ·rw [firstAt_succ T k n hk,if_neg (fun h => e h.symm),Option.or_none]
  ·rfl
theorem leads_lead {ms:List MemV} {T:St} {k:Nat} (hk:k < T.length) (hf:(ms.getD (T.getD k ([],0)).2 zeroMv).kind=48):leadD T (T.getD k ([],0)).2=(T.getD ((leads ms T k (T.getD k ([],0)).2).getD k) ([],0)).1:=by
 have h1:firstAt (T.take (k+1)) (T.getD k ([],0)).2=some ((leads ms T k (T.getD k ([],0)).2).getD k):=by
  rw [firstAt_succ T k _ hk,if_pos rfl];unfold leads;rw [if_pos hf]
  cases firstAt (T.take k) (T.getD k ([],0)).2<;>rfl
 exact leadD_first (firstAt_more h1)
theorem leads_lt {ms:List MemV} {T:St} {k n f:Nat} (h:leads ms T k n=some f):f < k∧f < T.length:=by
 unfold leads at h
 split at h
 ·unfold firstAt at h
  rw [List.findIdx?_eq_some_iff_getElem] at h;obtain ⟨h1,_⟩:=h;rw [List.length_take] at h1;omega
 ·cases h
end Go.Proofs.YthaoohbdjlbaeaaDoor.Tre
end
section
namespace Go.Proofs.YthaoohbdjlbaeaaDoor.Tre
open Go.ChangeShapes Go.WideShapes Go.ChangeAt Go.RowKit Base Byt Txt Bk Mk Mem Go.Lib
set_option linter.unusedVariables false
set_option maxRecDepth 100000
theorem ret_fold {fn:Func} (hf:fn.results=#[.tmp 2,.cell 3 28]) (tmps:Array Value) (w:World) (g:Nat) (v:Value) (ht:tmps.getD 3 undef=.pointer (some ⟨g,0,none⟩)) (hv:tmps.getD 2 undef=v)
 (a b:Int) (hb:Blk w g 28 #[.int .i64 a,.int .i64 b]):(results fn tmps).run Tryd.prog w=.ok (.tuple #[v,.agg #[.int .i64 a,.int .i64 b]]) w:=by
 have c0:=hb.cell 0;have c1:=hb.cell 1;simp only [List.getElem?_toArray,List.getElem?_cons_zero,List.getElem?_cons_succ] at c0 c1;clear hb;have hl:(loadVar 28 ⟨g,0,none⟩).run Tryd.prog w=.ok (.agg #[.int .i64 a,.int .i64 b]) w:=by go_simp
 have ht':tmps[3]?.getD undef=.pointer (some ⟨g,0,none⟩):=by simpa using ht
 have hv':tmps[2]?.getD undef=v:=by simpa using hv
 simp only [results,hf];simp [Result.andThen,ht',hv',asAddr,hl]
theorem blk_flt {w:World} {g:Nat} {x y:Value} (h:Blk w g 28 #[x,y]) (a b:Value):Blk ((w.setCell ⟨g,0,none⟩ a).setCell ⟨g,1,none⟩ b) g 28 #[a,b]:=
 (h.set 0 a (by show 0 < 2;decide)).set 1 b (by show 1 < 2;decide)
theorem putS_len (S:St) (p:List UInt8) (n:Nat):(putS S p n).length≤S.length+1:=by
 unfold putS;rw [List.length_append];have:=List.length_filter_le (fun e:List UInt8 × Nat => !(e.1 == p)) S
 simpa using this
structure OkS (ms:List MemV) (S:St) (k:Nat):Prop where
 len:S.length≤k
 from_:∀ e ∈ S,∃ j,j < k∧e.1=(ms.getD j zeroMv).path
theorem OkS.put {ms:List MemV} {S:St} {k:Nat} (h:OkS ms S k) (n:Nat):OkS ms (putS S (ms.getD k zeroMv).path n) (k+1):=by
 refine ⟨Nat.le_trans (putS_len _ _ _) (Nat.succ_le_succ h.len),fun e he => ?_⟩
 unfold putS at he;rw [List.mem_append,List.mem_filter] at he;rcases he with he | he
 ·obtain ⟨j,hj,e2⟩:=h.from_ e he.1
  exact ⟨j,by omega,e2⟩
 ·rw [List.mem_singleton.1 he]
  exact ⟨k,by omega,rfl⟩
theorem OkS.lay {ms:List MemV} {S S':St} {k:Nat} (h:OkS ms S k) (hl:layD ms S k=some S'):OkS ms S' (k+1):=by
 unfold layD at hl
 dsimp only at hl
 split at hl
 ·split at hl
  ·cases hl
  ·split at hl
   ·cases hl;exact h.put _
   ·cases hl
 ·cases hl;exact h.put _
theorem laysD_ok (ms:List MemV):∀ k S,laysD ms k=.ok S → OkS ms S k
 | 0,S,h => by cases h;exact ⟨Nat.le_refl _,fun e he => by cases he⟩
 | k+1,S,h => by
   unfold laysD at h
   split at h
   ·cases h
   ·next S0 h0 =>
    split at h
    ·cases h
    ·next S1 h1 => cases h;exact (laysD_ok ms k S0 h0).lay h1
theorem laysD_step {ms:List MemV} {k:Nat} {S S':St} (h:laysD ms k=.ok S) (hl:layD ms S k=some S'):laysD ms (k+1)=.ok S':=by
 unfold laysD;rw [h]
 dsimp only
 rw [hl]
theorem laysD_fall {ms:List MemV} {k:Nat} {S:St} (h:laysD ms k=.ok S) (hl:layD ms S k=none):laysD ms (k+1)=.error k:=by
 unfold laysD;rw [h]
 dsimp only
 rw [hl]
theorem laysD_stay {ms:List MemV} {k:Nat} {i:Nat} (h:laysD ms k=.error i):∀ d,laysD ms (k+d)=.error i
 | 0 => h
 | d+1 => by
   show laysD ms ((k+d)+1)=_;unfold laysD;rw [laysD_stay h d]
theorem foldD_bad {ms:List MemV} {i:Nat} (h:badAt ms=some i):foldD ms=([],1,i):=by
 unfold badAt at h;unfold foldD;rw [h]
theorem foldD_link {ms:List MemV} {i:Nat} (h:badAt ms=none) (h2:laysD ms ms.length=.error i):foldD ms=([],7,i):=by
 unfold badAt at h;unfold foldD;rw [h]
 dsimp only
 rw [h2]
theorem foldD_ok {ms:List MemV} {S:St} (h:badAt ms=none) (h2:laysD ms ms.length=.ok S):foldD ms=(treeD ms S,0,0):=by
 unfold badAt at h;unfold foldD;rw [h]
 dsimp only
 rw [h2]
end Go.Proofs.YthaoohbdjlbaeaaDoor.Tre
end
section
namespace Go.Proofs.YthaoohbdjlbaeaaDoor.Tre
open Mem
set_option linter.unusedVariables false
theorem good_clean {m:MemV} (h:goodD m=true):cleanOk m.path=true:=by
 unfold goodD at h;simp only [Bool.and_eq_true] at h;exact h.1.1.1.1
theorem good_at {m:MemV} (h:goodD m=true) {p:List UInt8} (hp:cleanOk p=true):goodD ⟨p,m.target,m.kind,m.mode,m.uid,m.gid,m.time,m.body⟩=true:=by
 unfold goodD at h ⊢;simp only [Bool.and_eq_true] at h ⊢;exact ⟨⟨⟨⟨hp,h.1.1.1.2⟩,h.1.1.2⟩,h.1.2⟩,h.2⟩
theorem getM_in {ms:List MemV} {k:Nat} (hk:k < ms.length):ms.getD k zeroMv ∈ ms:=by
 rw [List.getD,List.getElem?_eq_getElem hk];exact List.getElem_mem hk
theorem getS_in {T:St} {k:Nat} (hk:k < T.length):T.getD k ([],0) ∈ T:=by
 rw [List.getD,List.getElem?_eq_getElem hk];exact List.getElem_mem hk
def StG (ms:List MemV) (S:St):Prop:=∀ e ∈ S,e.2 < ms.length∧(ms.getD e.2 zeroMv).kind≠49∧cleanOk e.1=true
theorem StG.put {ms:List MemV} {S:St} (h:StG ms S) {p:List UInt8} {n:Nat} (hn:n < ms.length) (hk:(ms.getD n zeroMv).kind≠49) (hp:cleanOk p=true):StG ms (putS S p n):=by
 intro e he;unfold putS at he;rw [List.mem_append,List.mem_filter] at he;rcases he with he | he
 ·exact h e he.1
 ·rw [List.mem_singleton.1 he]
  exact ⟨hn,hk,hp⟩
theorem layD_stg {ms:List MemV} (hg:∀ m ∈ ms,goodD m=true) {S S':St} {i:Nat} (hi:i < ms.length) (h:layD ms S i=some S') (hS:StG ms S):StG ms S':=by
 have hp:=good_clean (hg _ (getM_in hi));unfold layD at h
 dsimp only at h
 split at h
 ·split at h
  ·cases h
  ·next n hn =>
   split at h
   ·next h48 =>
    cases h
    refine hS.put (InS.look (N:=ms.length) (fun e he => (hS e he).1) hn) (by rw [h48];decide) hp
   ·cases h
 ·next h49 => cases h;exact hS.put hi h49 hp
theorem laysD_stg {ms:List MemV} (hg:∀ m ∈ ms,goodD m=true):∀ k S,k≤ms.length → laysD ms k=.ok S → StG ms S
 | 0,S,_,h => by cases h;intro e he;cases he
 | k+1,S,hk,h => by
   unfold laysD at h
   split at h
   ·cases h
   ·next S0 h0 =>
    split at h
    ·cases h
    ·next S1 h1 => cases h;exact layD_stg hg (by omega) h1 (laysD_stg hg k S0 (by omega) h0)
theorem treeD_get (ms:List MemV) (S:St) {k:Nat} (hk:k < (sortS S).length):(treeD ms S).getD k zeroN=nodeD ms (sortS S) ((sortS S).getD k ([],0)):=by
 unfold treeD;rw [List.getD,List.getElem?_map,List.getD,List.getElem?_eq_getElem hk];rfl
theorem treeD_count (ms:List MemV) (S:St):(treeD ms S).length=S.length:=by
 unfold treeD;rw [List.length_map,(sortS_perm S).length_eq]
theorem treeD_rise (ms:List MemV) {S:St} (h:Apart S):Rising (treeD ms S):=by
 unfold Rising treeD;rw [List.pairwise_map];exact sortS_rise h
theorem first_of {T:St} {k:Nat} (hk:k < T.length):∃ f,f≤k∧(T.getD f ([],0)).2=(T.getD k ([],0)).2∧leadD T (T.getD k ([],0)).2=(T.getD f ([],0)).1:=by
 cases h:firstAt T (T.getD k ([],0)).2 with
 | none =>
   unfold firstAt at h;rw [List.findIdx?_eq_none_iff] at h;have:=h _ (getS_in hk);simp at this
 | some f =>
   have hl:=leadD_first h;unfold firstAt at h;rw [List.findIdx?_eq_some_iff_getElem] at h;obtain ⟨hf,h1,h2⟩:=h;have e1:T.getD f ([],0)=T[f]:=by rw [List.getD,List.getElem?_eq_getElem hf];rfl
   refine ⟨f,?_,?_,hl⟩
   ·apply Nat.le_of_not_lt
    intro hlt;have:=h2 k hlt;have e2:T.getD k ([],0)=T[k]:=by rw [List.getD,List.getElem?_eq_getElem hk];rfl
    rw [e2] at this;simp at this
   ·rw [e1]
    simpa using h1
theorem treeD_good {ms:List MemV} (hg:∀ m ∈ ms,goodD m=true) {S:St} (hA:Apart S) (hS:StG ms S) (hn:S.length≤4096):goodT (treeD ms S)=true:=by
 have hlen:=treeD_count ms S;have hTl:(sortS S).length=S.length:=(sortS_perm S).length_eq;have hR:=treeD_rise ms hA;refine goodT_true (by omega) fun k hk => ?_
 have hkT:k < (sortS S).length:=by omega
 have hIn:(sortS S).getD k ([],0) ∈ S:=(sortS_perm S).mem_iff.1 (getS_in hkT);obtain ⟨h1,h2,h3⟩:=hS _ hIn;have hgm:=hg _ (getM_in h1);unfold goodAt
 dsimp only
 rw [treeD_get ms S hkT,Bool.and_eq_true,Bool.and_eq_true];refine ⟨⟨?_,?_⟩,?_⟩
 ·unfold isNodeD
  rw [Bool.and_eq_true];exact ⟨decide_eq_true h2,good_at hgm h3⟩
 ·rcases Nat.eq_zero_or_pos k with h0 | h0
  ·rw [h0];rfl
  ·rw [treeD_get ms S (by omega),Bool.or_eq_true]
   right;have:=List.pairwise_iff_getElem.1 (sortS_rise hA) (k - 1) k (by omega) hkT (by omega)
   have e1:(sortS S).getD k ([],0)=(sortS S)[k]:=by rw [List.getD,List.getElem?_eq_getElem hkT];rfl
   have e2:(sortS S).getD (k - 1) ([],0)=(sortS S)[k - 1]'(by omega):=by rw [List.getD,List.getElem?_eq_getElem (by omega)];rfl
   rw [e1,e2];exact this
 ·obtain ⟨T,hT⟩:∃ T,sortS S=T:=⟨_,rfl⟩
  rw [hT] at hkT hIn h1 h2 h3 hgm ⊢;obtain ⟨e,he⟩:∃ e,T.getD k ([],0)=e:=⟨_,rfl⟩;obtain ⟨f,hfk,hf2,hfl⟩:=first_of hkT;rw [he] at hf2 hfl ⊢;unfold ledD
  split
  ·next h48 =>
   have h48':(ms.getD e.2 zeroMv).kind=48:=h48
   have hlead:(nodeD ms T e).leader=leadD T e.2:=by
    show (if (ms.getD e.2 zeroMv).kind=48 then leadD T e.2 else [])=_
    rw [if_pos h48']
   have hf9:(treeD ms S).getD f zeroN=nodeD ms T (T.getD f ([],0)):=by
    have:=treeD_get ms S (k:=f) (by rw [hT];omega)
    rw [hT] at this;exact this
   have hfind:findN ((treeD ms S).take (k+1)) (nodeD ms T e).leader=some (nodeD ms T (T.getD f ([],0))):=by
    rw [hlead,hfl];have hlt:f < ((treeD ms S).take (k+1)).length:=by rw [List.length_take];omega
    have hg1:((treeD ms S).take (k+1)).getD f zeroN=nodeD ms T (T.getD f ([],0)):=by
     rw [← hf9,List.getD,List.getD,List.getElem?_take,if_pos (by omega)]
    have:=seek_found (t:=(treeD ms S).take (k+1)) (b:=(T.getD f ([],0)).1) (k:=f) (List.Pairwise.sublist (List.take_sublist _ _) hR) hlt (by rw [hg1];rfl)
    rw [this,hg1]
   rw [hfind]
   have hl2:(nodeD ms T (T.getD f ([],0))).leader=(T.getD f ([],0)).1:=by
    show (if (ms.getD (T.getD f ([],0)).2 zeroMv).kind=48 then leadD T (T.getD f ([],0)).2 else [])=_
    rw [hf2,if_pos h48',hfl]
   have hm:∀ (a:NodeV) (b:NodeV),a=nodeD ms T (T.getD f ([],0)) → b=nodeD ms T e → a.kind=b.kind∧a.mode=b.mode∧a.uid=b.uid∧a.gid=b.gid∧a.time=b.time∧a.body=b.body:=by
    rintro a b rfl rfl;unfold nodeD nodeM;rw [hf2];exact ⟨rfl,rfl,rfl,rfl,rfl,rfl⟩
   obtain ⟨m1,m2,m3,m4,m5,m6⟩:=hm _ _ rfl rfl;unfold ledO;simp only [Bool.and_eq_true,decide_eq_true_eq];exact ⟨m1.trans h48,hl2,⟨m2,m3,m4,m5⟩,m6⟩
  ·next h48 =>
   have h48':¬ (ms.getD e.2 zeroMv).kind=48:=h48
   have:(nodeD ms T e).leader=[]:=by
    show (if (ms.getD e.2 zeroMv).kind=48 then leadD T e.2 else [])=_
    rw [if_neg h48']
   rw [this];rfl
theorem foldD_cases (ms:List MemV):(∃ i,badAt ms=some i∧foldD ms=([],1,i)) ∨ (badAt ms=none ∧ ∃ i,laysD ms ms.length=.error i∧foldD ms=([],7,i)) ∨ (badAt ms=none ∧ ∃ S,laysD ms ms.length=.ok S∧foldD ms=(treeD ms S,0,0)):=by
 cases h:badAt ms with
 | some i => exact .inl ⟨i,rfl,foldD_bad h⟩
 | none =>
   right
   cases h2:laysD ms ms.length with
   | error i => exact .inl ⟨rfl,i,rfl,foldD_link h h2⟩
   | ok S => exact .inr ⟨rfl,S,rfl,foldD_ok h h2⟩
theorem foldD_good {ms:List MemV} (hn:ms.length≤4096) (h:(foldD ms).2.1=0):goodT (foldD ms).1=true:=by
 rcases foldD_cases ms with ⟨i,_,e⟩ | ⟨_,i,_,e⟩ | ⟨hb,S,hS,e⟩
 ·rw [e] at h;cases h
 ·rw [e] at h;cases h
 ·rw [e]
  have hg:=badAt_all hb;exact treeD_good hg (laysD_apart _ _ _ hS) (laysD_stg hg _ _ (Nat.le_refl _) hS) (Nat.le_trans (laysD_ok _ _ _ hS).len hn)
theorem foldD_len (ms:List MemV):(foldD ms).1.length≤ms.length:=by
 rcases foldD_cases ms with ⟨i,_,e⟩ | ⟨_,i,_,e⟩ | ⟨hb,S,hS,e⟩
 ·rw [e];exact Nat.zero_le _
 ·rw [e];exact Nat.zero_le _
 ·rw [e]
  show (treeD ms S).length≤_;rw [treeD_count];exact (laysD_ok _ _ _ hS).len
end Go.Proofs.YthaoohbdjlbaeaaDoor.Tre
end
section
namespace Go.Proofs.YthaoohbdjlbaeaaDoor.Tre
open Mem
set_option linter.unusedVariables false
def vC (y:CP):NodeV × Nat:=(y.x.m,y.k)
def clsD (ms:List MemV) (e:List UInt8 × Nat):NodeV × Nat:=(nodeM e.1 (ms.getD e.2 zeroMv) [],e.2)
def Says (ms:List MemV) (ys:List CP) (S:St):Prop:=ys.map vC=S.map (clsD ms)
theorem Says.len {ms:List MemV} {ys:List CP} {S:St} (h:Says ms ys S):ys.length=S.length:=by
 have:=congrArg List.length h
 simpa using this
theorem getC_eq {ys:List CP} {k:Nat} (hk:k < ys.length):ys.getD k zeroC=ys[k]:=by rw [List.getD,List.getElem?_eq_getElem hk];rfl
theorem getS_eq {S:St} {k:Nat} (hk:k < S.length):S.getD k ([],0)=S[k]:=by rw [List.getD,List.getElem?_eq_getElem hk];rfl
theorem Says.get {ms:List MemV} {ys:List CP} {S:St} (h:Says ms ys S) {k:Nat} (hk:k < S.length):vC (ys.getD k zeroC)=clsD ms (S.getD k ([],0)):=by
 have hl:=h.len;have:=congrArg (fun l => l[k]?) h
 simp only [List.getElem?_map] at this;rw [List.getElem?_eq_getElem (show k < ys.length by omega),List.getElem?_eq_getElem hk] at this
 rw [getC_eq (show k < ys.length by omega),getS_eq hk]
 exact Option.some.inj this
theorem Says.m {ms:List MemV} {ys:List CP} {S:St} (h:Says ms ys S) {k:Nat} (hk:k < S.length):(ys.getD k zeroC).x.m=nodeM (S.getD k ([],0)).1 (ms.getD (S.getD k ([],0)).2 zeroMv) []:=congrArg Prod.fst (h.get hk)
theorem Says.k {ms:List MemV} {ys:List CP} {S:St} (h:Says ms ys S) {k:Nat} (hk:k < S.length):(ys.getD k zeroC).k=(S.getD k ([],0)).2:=congrArg Prod.snd (h.get hk)
theorem Says.path {ms:List MemV} {ys:List CP} {S:St} (h:Says ms ys S) {k:Nat} (hk:k < S.length):(ys.getD k zeroC).x.m.path=(S.getD k ([],0)).1:=by rw [h.m hk];rfl
theorem Says.snoc {ms:List MemV} {ys:List CP} {S:St} (h:Says ms ys S) {y:CP} {e:List UInt8 × Nat} (hy:vC y=clsD ms e):Says ms (ys++[y]) (S++[e]):=by
 unfold Says at *;rw [List.map_append,List.map_append,h];show _++[vC y]=_++[clsD ms e];rw [hy]
def swapS (S:St) (k:Nat):St:=(S.set k (S.getD (k - 1) ([],0))).set (k - 1) (S.getD k ([],0))
def swapC (ys:List CP) (k:Nat):List CP:=(ys.set k (ys.getD (k - 1) zeroC)).set (k - 1) (ys.getD k zeroC)
theorem swapC_len (ys:List CP) (k:Nat):(swapC ys k).length=ys.length:=by simp [swapC]
theorem Says.swap {ms:List MemV} {ys:List CP} {S:St} (h:Says ms ys S) {k:Nat} (hk:k < S.length):Says ms (swapC ys k) (swapS S k):=by
 have h1:=h.get hk;have h2:=h.get (show k - 1 < S.length by omega)
 unfold Says swapC swapS at *;rw [List.map_set,List.map_set,List.map_set,List.map_set,h,h1,h2]
theorem swapS_perm {S:St} {k:Nat} (hk:k < S.length):(swapS S k).Perm S:=by
 unfold swapS;rw [getS_eq hk,getS_eq (show k - 1 < S.length by omega)]
 exact List.set_set_perm hk (by omega)
theorem setS_get (S:St) (k i:Nat) (e:List UInt8 × Nat) (hk:k < S.length):(S.set k e).getD i ([],0)=if i=k then e else S.getD i ([],0):=by
 rw [List.getD,List.getD,List.getElem?_set]
 by_cases h:k=i
 ·subst h
  simp [hk]
 ·rw [if_neg h,if_neg (fun e => h e.symm)]
theorem swapS_get {S:St} {k:Nat} (hk:k < S.length) (i:Nat):(swapS S k).getD i ([],0)=if i=k - 1 then S.getD k ([],0) else if i=k then S.getD (k - 1) ([],0) else S.getD i ([],0):=by
 unfold swapS;rw [setS_get _ _ _ _ (by rw [List.length_set];omega),setS_get _ _ _ _ hk]
def Pre (S:St) (i:Nat):Prop:=∀ a b,a < b → b < i → ltB (S.getD a ([],0)).1 (S.getD b ([],0)).1=true
def Ins (S:St) (i k:Nat):Prop:=k≤i ∧ ∀ a b,a < b → b≤i → b≠k → ltB (S.getD a ([],0)).1 (S.getD b ([],0)).1=true
theorem Pre.one (S:St):Pre S 1:=fun a b h1 h2 => by omega
theorem Pre.zero (S:St):Pre S 0:=fun a b h1 h2 => by omega
theorem Ins.start {S:St} {i:Nat} (h:Pre S i):Ins S i i:=⟨Nat.le_refl _,fun a b h1 h2 h3 => h a b h1 (by omega)⟩
theorem Ins.swap {S:St} {i k:Nat} (h:Ins S i k) (h0:0 < k) (hi:i < S.length) (hlt:ltB (S.getD k ([],0)).1 (S.getD (k - 1) ([],0)).1=true):Ins (swapS S k) i (k - 1):=by
 obtain ⟨hk,h⟩:=h;refine ⟨by omega,fun a b h1 h2 h3 => ?_⟩
 rw [swapS_get (by omega),swapS_get (by omega),if_neg h3]
 by_cases hb:b=k
 ·rw [if_pos hb]
  by_cases ha:a=k - 1
  ·rw [if_pos ha];exact hlt
  ·rw [if_neg ha,if_neg (by omega)]
   exact h a (k - 1) (by omega) (by omega) (by omega)
 ·rw [if_neg hb]
  by_cases ha:a=k - 1
  ·rw [if_pos ha]
   exact h k b (by omega) h2 hb
  ·rw [if_neg ha]
   by_cases ha2:a=k
   ·rw [if_pos ha2]
    exact h (k - 1) b (by omega) h2 hb
   ·rw [if_neg ha2]
    exact h a b h1 h2 hb
theorem apart_ne {S:St} (h:Apart S) {a b:Nat} (hab:a < b) (hb:b < S.length):(S.getD a ([],0)).1≠(S.getD b ([],0)).1:=by
 have:=(List.pairwise_iff_getElem.1 h) a b (by rw [List.length_map];omega) (by rw [List.length_map];omega) hab
 rw [List.getElem_map,List.getElem_map] at this;rw [getS_eq hb,getS_eq (show a < S.length by omega)]
 exact this
theorem Ins.done {S:St} {i k:Nat} (h:Ins S i k) (hA:Apart S) (hi:i < S.length) (he:k=0 ∨ ltB (S.getD k ([],0)).1 (S.getD (k - 1) ([],0)).1=false):Pre S (i+1):=by
 obtain ⟨hk,h⟩:=h;intro a b h1 h2
 by_cases hb:b=k
 ·subst hb
  rcases he with he | he
  ·omega
  ·have hl:ltB (S.getD (b - 1) ([],0)).1 (S.getD b ([],0)).1=true:=ltB_of_not he (fun e => apart_ne hA (show b - 1 < b by omega) (by omega) e.symm)
   by_cases ha:a=b - 1
   ·rw [ha];exact hl
   ·exact ltB_trans _ _ _ (h a (b - 1) (by omega) (by omega) (by omega)) hl
 ·exact h a b h1 (by omega) hb
theorem Pre.rise {S:St} (h:Pre S S.length):RiseS S:=by
 unfold RiseS;rw [List.pairwise_iff_getElem];intro a b ha hb hab;have:=h a b hab hb;rw [getS_eq ha,getS_eq hb] at this;exact this
theorem Apart.perm {S S':St} (h:Apart S) (hp:S'.Perm S):Apart S':=(hp.map _).nodup_iff.2 h
theorem Pre.sorted {S T:St} (hA:Apart S) (hp:T.Perm S) (h:Pre T T.length):T=sortS S:=sortS_only hA hp h.rise
end Go.Proofs.YthaoohbdjlbaeaaDoor.Tre
end
section
namespace Go.Proofs.YthaoohbdjlbaeaaDoor.Tre
open Go.ChangeShapes Go.WideShapes Go.ChangeAt Go.RowKit Base Byt Txt Bk Mem Go.Lib
set_option linter.unusedVariables false
set_option maxRecDepth 100000
def pathsC (ys:List CP):List (List UInt8):=ys.map fun y => y.x.m.path
def atC (ps:List (List UInt8)) (b:List UInt8):Option Nat:=ps.findIdx? fun q => q == b
def atZ:Option Nat → Int
 | none => -1
 | some k => (k:Int)
theorem atC_none {ps:List (List UInt8)} {b:List UInt8} (h:∀ q ∈ ps,q≠b):atC ps b=none:=by
 unfold atC;rw [List.findIdx?_eq_none_iff];intro q hq
 simpa using h q hq
theorem pathsC_get (ys:List CP) (k:Nat) (hk:k < ys.length):(pathsC ys)[k]'(by unfold pathsC;simpa using hk)=(ys.getD k zeroC).x.m.path:=by
 unfold pathsC;rw [List.getElem_map,getC_eq hk]
theorem atC_some {ys:List CP} {b:List UInt8} {k:Nat} (hk:k < ys.length) (h:(ys.getD k zeroC).x.m.path=b) (h0:∀ q ∈ (pathsC ys).take k,q≠b):atC (pathsC ys) b=some k:=by
 unfold atC;have hl:(pathsC ys).length=ys.length:=by simp [pathsC]
 rw [List.findIdx?_eq_some_iff_getElem];refine ⟨by omega,by rw [pathsC_get ys k hk];simpa using h,fun j hj => ?_⟩
 have:=h0 ((pathsC ys)[j]'(by omega)) (by
  rw [List.mem_take_iff_getElem]
  exact ⟨j,by omega,rfl⟩)
 simpa using this
theorem pathsC_take (ys:List CP) (k:Nat) (hk:k < ys.length):(pathsC ys).take (k+1)=(pathsC ys).take k++[(ys.getD k zeroC).x.m.path]:=by
 rw [List.take_succ_eq_append_getElem (by unfold pathsC;simpa using hk),pathsC_get ys k hk]
set_option maxHeartbeats 4000000 in
theorem rat_any (p:Option Addr) (n c:Nat) (ys:List CP) (b:List UInt8) (w:World) (h:ClsAt w p n ys) (hn:n≤maxLen) :
 Calls Tryd.prog 30 #[.slice p n c,.string (str b)] w fun e w' => e=.returned (.int .i64 (atZ (atC (pathsC ys) b)))∧w=w':=by
 unfold maxLen at hn;have HM:=Lib.hid h;have HL:=Lib.hid h.1;clear h
 go_enter Tryd.func30,Tryd.ntmps30
 go_wp2_with fail
 go_loop [5] (fun i => ∃ (k:Nat),k≤n∧i=.int .i64 (k:Int)∧Hid (∀ q ∈ (pathsC ys).take k,q≠b)) (fun i => n - (RowKit.intOf i).toNat)
 case atStart => exact ⟨0,Nat.zero_le _,rfl,Lib.hid (by simp)⟩
 case round =>
  obtain ⟨k,hk,rfl,hN⟩:=hrel
  by_cases hlt:k < n
  ·obtain ⟨b1,o1,rfl,hb1,hB1,hc1⟩:=HM.out.cells10 hlt
   have hkl:k < ys.length:=by rw [HL.out];exact hlt
   have HKL:=Lib.hid hkl;obtain ⟨u,hu⟩:∃ u,ys.getD k zeroC=u:=⟨_,rfl⟩;rw [hu] at hB1 hc1;have HU:=Lib.hid hu;obtain ⟨c0,c1,c2,c3,c4,c5,c6,c7,c8,c9⟩:=hc1;have hltz:(k:Int) < (n:Int):=by omega
   have e1:((str u.x.m.path).toList == (str b).toList)=decide (u.x.m.path=b):=by
    rw [str_toList,str_toList]
    by_cases h:u.x.m.path=b<;>simp [h]
   clear hB1 hu hb1 hkl c1 c2 c3 c4 c5 c6 c7 c8 c9
   by_cases he:u.x.m.path=b
   ·rw [decide_eq_true he] at e1
    have E:Hid (atC (pathsC ys) b=some k):=Lib.hid (atC_some HKL.out (by rw [HU.out];exact he) hN.out)
    clear he
    go_wp2
    go_ret
    rw [E.out];exact ⟨rfl,rfl⟩
   ·rw [decide_eq_false he] at e1
    have HN:Hid (∀ q ∈ (pathsC ys).take (k+1),q≠b):=Lib.hid (by
     intro q hq;rw [pathsC_take ys k HKL.out,List.mem_append,HU.out] at hq;rcases hq with hq | hq
     ·exact hN.out q hq
     ·rw [List.mem_singleton.1 hq];exact he)
    clear he
    go_wp2
    go_round
    case rel => exact ⟨k+1,by omega,by go_num,HN⟩
    case measure => simp [RowKit.intOf];omega
  ·have hks:¬ ((k:Int) < (n:Int)):=by omega
   have E:Hid (atC (pathsC ys) b=none):=Lib.hid (atC_none fun q hq => hN.out q (by rw [List.take_of_length_le (by simp [pathsC,HL.out];omega)];exact hq))
   go_wp2
   go_ret
   rw [E.out];exact ⟨rfl,rfl⟩
end Go.Proofs.YthaoohbdjlbaeaaDoor.Tre
end
section
namespace Go.Proofs.YthaoohbdjlbaeaaDoor.Tre
open Go.ChangeShapes Go.WideShapes Go.ChangeAt Go.RowKit Base Byt Txt Bk Rec Block Mem Go.Lib
set_option linter.unusedVariables false
set_option maxRecDepth 100000
structure SrtI (w wr:World) (ms:List MemV) (S:St) (q:Option Addr) (n:Nat) (T:St) (zs:List CP):Prop where
 bel:Below w.heap.size w wr
 row:0 < n → ∃ g,q=some ⟨g,0,none⟩∧w.heap.size≤g∧g < wr.heap.size∧Rc wr g zs
 len:zs.length=n
 says:Says ms zs T
 perm:T.Perm S
 bod:∀ y ∈ zs,BodAt w y.x∧y.x.m.body.length≤140737488351232
section
variable {w wr w':World} {ms:List MemV} {S T:St} {q:Option Addr} {n:Nat} {zs:List CP}
theorem SrtI.tlen (h:SrtI w wr ms S q n T zs):T.length=n:=by rw [← h.says.len,h.len]
theorem mem_set2 {α:Type} {l:List α} {i:Nat} {a x:α} (h:x ∈ l.set i a):x ∈ l ∨ x=a:=List.mem_or_eq_of_mem_set h
theorem SrtI.swap (h:SrtI w wr ms S q n T zs) {g k:Nat} (hq:q=some ⟨g,0,none⟩) (hw:w.heap.size≤g) (hg:g < wr.heap.size) (hr:Rc wr g zs) (hk:k < n) (h0:0 < k) :
 SrtI w (put10 (put10 wr g (k * 10) (zs.getD (k - 1) zeroC)) g ((k - 1) * 10) (zs.getD k zeroC)) ms S q n (swapS T k) (swapC zs k) where
 bel:=h.bel.trans (((put10_kept (S:=oneB g) rfl _).trans (put10_kept (S:=oneB g) rfl _)).below h.bel.size (fun b hb => by rw [show b=g from hb];exact hw))
 row:=fun _ => ⟨g,hq,hw,by
  have:=((put10_kept (W:=wr) (S:=oneB g) (g:=g) (o:=k * 10) rfl (zs.getD (k - 1) zeroC)).trans (put10_kept (S:=oneB g) (o:=(k - 1) * 10) rfl (zs.getD k zeroC))).size;omega,by
  have h1:=hr.set (k:=k) (by rw [h.len];exact hk) (zs.getD (k - 1) zeroC)
  exact h1.set (k:=k - 1) (by rw [List.length_set,h.len];omega) (zs.getD k zeroC)⟩
 len:=by rw [swapC_len];exact h.len
 says:=h.says.swap (by rw [h.tlen];exact hk)
 perm:=(swapS_perm (by rw [h.tlen];exact hk)).trans h.perm
 bod:=fun y hy => by
  unfold swapC at hy;rcases mem_set2 hy with hy | rfl
  ·rcases mem_set2 hy with hy | rfl
   ·exact h.bod y hy
   ·exact h.bod _ (getC_mem zs _ (by rw [h.len];omega))
  ·exact h.bod _ (getC_mem zs _ (by rw [h.len];omega))
theorem rc_drewN {W:World} {g:Nat} {ys:List CP} (h:Rc W g ys) (m:Nat):Rc (W.drewN m) g ys:=by
 obtain ⟨cur,h1,h2,h3⟩:=h;exact ⟨cur,h1.drewN m,h2,h3⟩
theorem SrtI.drewN (h:SrtI w wr ms S q n T zs) (m:Nat):SrtI w (wr.drewN m) ms S q n T zs where
 bel:=below_drewN h.bel m
 row:=fun h0 => by
  obtain ⟨g,h1,h2,h3,h4⟩:=h.row h0;exact ⟨g,h1,h2,h3,rc_drewN h4 m⟩
 len:=h.len
 says:=h.says
 perm:=h.perm
 bod:=h.bod
end
def nodeX (m:NodeV) (l:List UInt8):NodeV:=⟨m.path,m.target,l,m.kind,m.mode,m.uid,m.gid,m.time,m.body⟩
def dum (ts:List NodeV):List NP:=ts.map fun m => ⟨m,none,0⟩
theorem dum_get (ts:List NodeV) (k:Nat):((dum ts).getD k zeroQ).m=ts.getD k zeroN:=by
 unfold dum;rw [List.getD,List.getD,List.getElem?_map]
 cases ts[k]?<;>rfl
theorem dum_m (ts:List NodeV):(dum ts).map NP.m=ts:=by
 unfold dum;rw [List.map_map]
 conv => rhs;rw [← List.map_id ts]
 rfl
theorem dum_len (ts:List NodeV):(dum ts).length=ts.length:=by simp [dum]
def SortPost (w:World) (n:Nat) (ts:List NodeV) (e:Ending) (w':World):Prop:=∃ q d zs,e=.returned (.slice q n d)∧zs.map NP.m=ts∧NodesAt w' q n zs∧Below w.heap.size w w'
set_option maxHeartbeats 4000000 in
theorem rsorted_any (p:Option Addr) (n c:Nat) (ys:List CP) (ms:List MemV) (S:St) (w:World) (h:ClsAt w p n ys) (hS:Says ms ys S) (hA:Apart S) (hn:n≤1000) (hR:∀ y ∈ ys,y.x.m.body.length≤140737488351232) :
 Calls Tryd.prog 31 #[.slice p n c] w (SortPost w n (treeD ms S)):=by
 obtain ⟨i0,hi,hz0,hz1,hz2⟩:=info_parts infoU8;have HI:=Lib.hid hi;have HZ0:=Lib.hid hz0;have HZ1:=Lib.hid hz1;have HZ2:=Lib.hid hz2;have HM:=Lib.hid h;have HS:=Lib.hid hS;have HA:=Lib.hid hA;have HR:=Lib.hid hR;clear hi hz0 hz1 hz2 h hS hA hR
 go_enter Tryd.func31,Tryd.ntmps31
 go_wp2_with (at_builtin;refine append_clss rfl _ _ rfl w.heap.size _ 0 [] rfl rfl (World.ownsRow_made w #[] 0 (Nat.le_refl _) (by decide) rfl) p n c ys rfl (HM.out.below ((Below.refl _ _).alloc (Nat.le_refl _) _)) ?b1 ?b2 ?_)
 case b1 => omega
 case b2 => simp
 intro v1 w1 hown hgrow;have hk1:Kept noneB w w1:=(((Kept.refl noneB w).alloc _)).grown hgrow (by intro k hk;simp [Value.ownBlock] at hk;omega)
 have hb1:Below w.heap.size w w1:=hk1.below (Nat.le_refl _) (fun _ h => h.elim)
 have hl:=HM.out.1;obtain ⟨q,c1,rfl,hc1,hc2,hcl⟩:=cls_own hown (fun y hy => (HM.out.2.1 y hy).below hb1)
 have HO:Hid (SrtI w w1 ms S q n S ys):=Lib.hid
  { bel:=hb1
    row:=fun h0 => by
     obtain ⟨g,c2,he,hB,_,_,hrc⟩:=rc_own hown (by rw [hl];exact h0)
     cases he
     obtain ⟨cur,h1,h2,h3⟩:=hrc;exact ⟨g,rfl,hB,h1.lt,cur,h1,h2,h3⟩
    len:=hl
    says:=HS.out
    perm:=List.Perm.refl _
    bod:=fun y hy => ⟨HM.out.2.1 y hy,HR.out y hy⟩ }
 rw [hl] at hc1 ⊢;have HC:=Lib.hid (And.intro hc1 hc2);clear hown hgrow hk1 hb1 hl hc1 hc2 hcl
 go_wp2_with fail
 go_loopw [3,4] (fun i _ wr => ∃ (k:Nat) (T:St) (zs:List CP),1≤k∧(k≤n ∨ k=1)∧i=.int .i64 (k:Int)∧Hid (SrtI w wr ms S q n T zs)∧Hid (Pre T k)) (fun i _ _ => n - (RowKit.intOf i).toNat)
 case atStart => exact ⟨1,S,ys,Nat.le_refl _,.inr rfl,rfl,HO,Lib.hid (Pre.one S)⟩
 case round =>
  obtain ⟨k,T,zs,hk1,hk2,rfl,hO,hP⟩:=hrel
  by_cases hlt:k < n
  ·have hltz:(k:Int) < (n:Int):=by omega
   clear hk2
   go_wp2_with fail
   go_loopw [4] (fun j wr => ∃ (a:Nat) (T:St) (zs:List CP),a≤k∧j=.int .i64 (a:Int)∧Hid (SrtI w wr ms S q n T zs)∧Hid (Ins T k a)) (fun j _ => (RowKit.intOf j).toNat)
   case atStart => exact ⟨k,T,zs,Nat.le_refl _,rfl,hO,Lib.hid (Ins.start hP.out)⟩
   case round =>
    obtain ⟨a,T,zs,ha,rfl,hO,hN⟩:=hrel;have HTL:=Lib.hid hO.out.tlen;have HAT:=Lib.hid (HA.out.perm hO.out.perm)
    by_cases h0:0 < a
    ·obtain ⟨g,hq,hwg,hgr,hrc⟩:=hO.out.row (by omega)
     subst hq;have hzl:zs.length=n:=hO.out.len;have hcu:=hrc.cells10 (show a < zs.length by omega)
     have hcv:=hrc.cells10 (show a - 1 < zs.length by omega)
     have HPA:Hid ((zs.getD a zeroC).x.m.path=(T.getD a ([],0)).1∧(zs.getD (a - 1) zeroC).x.m.path=(T.getD (a - 1) ([],0)).1):=Lib.hid ⟨hO.out.says.path (by rw [HTL.out];omega),hO.out.says.path (by rw [HTL.out];omega)⟩
     have HSW:Hid (∀ m,SrtI w (put10 (put10 (wr.drewN m) g (a * 10) (zs.getD (a - 1) zeroC)) g ((a - 1) * 10) (zs.getD a zeroC)) ms S (some ⟨g,0,none⟩) n (swapS T a) (swapC zs a)):=Lib.hid (fun m => (hO.out.drewN m).swap rfl hwg hgr (rc_drewN hrc m) (by omega) h0)
     obtain ⟨cur,hbk,_,_⟩:=hrc;have HBK:=Lib.hid hbk;obtain ⟨u,hu⟩:∃ u,zs.getD a zeroC=u:=⟨_,rfl⟩;obtain ⟨v,hv⟩:∃ v,zs.getD (a - 1) zeroC=v:=⟨_,rfl⟩;rw [hu] at hcu HSW HPA;rw [hv] at hcv HSW HPA;obtain ⟨c0,c1,c2,c3,c4,c5,c6,c7,c8,c9⟩:=hcu;obtain ⟨d0,d1,d2,d3,d4,d5,d6,d7,d8,d9⟩:=hcv;obtain ⟨L,hL⟩:∃ L,ltB u.x.m.path v.x.m.path=L:=⟨_,rfl⟩;have eL:Op.bytesLess (str u.x.m.path).toList (str v.x.m.path).toList=L:=by rw [str_toList,str_toList];exact hL
     have HL:=Lib.hid hL;have hkz:(0:Int) < (a:Int):=by omega
     have hk1z:(1:Int)≤(a:Int):=by omega
     have wk:IntKind.i64.wrap ((a:Int) - 1)=(a:Int) - 1:=by rw [IntKind.wrap_i64];omega
     have wk0:(0:Int)≤(a:Int) - 1:=by omega
     have wk2:(a:Int) - 1 < (n:Int):=by omega
     have wk3:((a:Int) - 1).toNat=a - 1:=by omega
     have han:(a:Int) < (n:Int):=by omega
     clear hu hv hL hbk hzl hwg hgr
     go_upto_region 6 with fail
     cases L with
     | true =>
       go_quiet (fail)
       have fa0:=HBK.out.frozen (a * 10);have fb0:=HBK.out.frozen ((a - 1) * 10);have fa1:=HBK.out.frozen (a * 10+1);have fb1:=HBK.out.frozen ((a - 1) * 10+1);have fa2:=HBK.out.frozen (a * 10+2);have fb2:=HBK.out.frozen ((a - 1) * 10+2);have fa3:=HBK.out.frozen (a * 10+3);have fb3:=HBK.out.frozen ((a - 1) * 10+3);have fa4:=HBK.out.frozen (a * 10+4);have fb4:=HBK.out.frozen ((a - 1) * 10+4);have fa5:=HBK.out.frozen (a * 10+5);have fb5:=HBK.out.frozen ((a - 1) * 10+5);have fa6:=HBK.out.frozen (a * 10+6);have fb6:=HBK.out.frozen ((a - 1) * 10+6)
       have fa7:=HBK.out.frozen (a * 10+7);have fb7:=HBK.out.frozen ((a - 1) * 10+7);have fa8:=HBK.out.frozen (a * 10+8);have fb8:=HBK.out.frozen ((a - 1) * 10+8);have fa9:=HBK.out.frozen (a * 10+9);have fb9:=HBK.out.frozen ((a - 1) * 10+9);have HN2:Hid (Ins (swapS T a) k (a - 1)):=Lib.hid (hN.out.swap h0 (by rw [HTL.out];omega) (by rw [← HPA.out.1,← HPA.out.2];exact HL.out))
       go_upto_region 8 with fail
       go_region
       go_wp2
       go_roundw
       case rel => exact ⟨a - 1,swapS T a,swapC zs a,by omega,by go_num,Lib.hid (HSW.out _),HN2⟩
       case measure => simp [RowKit.intOf];omega
     | false =>
       have HPR:Hid (Pre T (k+1)):=Lib.hid (hN.out.done HAT.out (by rw [HTL.out];omega) (.inr (by rw [← HPA.out.1,← HPA.out.2];exact HL.out)))
       go_quiet (fail)
       go_wp2
       go_roundw
       case rel => exact ⟨k+1,T,zs,by omega,.inl (by omega),by go_num,Lib.hid (hO.out.drewN _),HPR⟩
       case measure => simp [RowKit.intOf];omega
    ·have hkz:decide ((0:Int) < (a:Int))=false:=decide_eq_false (by omega)
     have hkn:decide (0 < a)=false:=decide_eq_false (by omega)
     have HPR:Hid (Pre T (k+1)):=Lib.hid (hN.out.done HAT.out (by rw [HTL.out];omega) (.inl (by omega)))
     go_upto_region 6 with fail
     go_quiet (fail)
     go_wp2
     go_roundw
     case rel => exact ⟨k+1,T,zs,by omega,.inl (by omega),by go_num,Lib.hid (hO.out.drewN _),HPR⟩
     case measure => simp [RowKit.intOf];omega
  ·have HO1:Hid (SrtI w wr ms S q n (sortS S) zs):=Lib.hid (by
    have hT:T=sortS S:=Pre.sorted HA.out hO.out.perm (fun a b h1 h2 => hP.out a b h1 (by have:=hO.out.tlen;omega))
    rw [← hT]
    exact hO.out)
   have hks:¬ ((k:Int) < (n:Int)):=by omega
   clear hO hP
   go_wp2_with fail
   clear hks hk1 hk2 hlt HM HS HA HR HC HO;obtain ⟨wS,rfl⟩:∃ x,x=wr:=⟨_,rfl⟩
   go_loopw [5,6,7,8] (fun o i _ _ wr => ∃ (k:Nat) (rs:List NP) (vo:Value),k≤n∧vo=o∧i=.int .i64 (k:Int)∧Hid (OwnJ wS wr (dum (treeD ms S)) k vo rs)) (fun _ i _ _ _ => n - (RowKit.intOf i).toNat)
   case atStart => exact ⟨0,[],_,Nat.zero_le _,rfl,rfl,Lib.hid ⟨Below.refl _ _,World.ownsRow_nil _ _ _ _,rfl,rfl,fun x hx => (by cases hx),fun x hx => (by cases hx)⟩⟩
   case round =>
    obtain ⟨k,rs,o,hk,rfl,rfl,hO⟩:=hrel;obtain ⟨wo,rfl⟩:∃ x,x=wr:=⟨_,rfl⟩;have HSN:Hid (S.length=n):=Lib.hid (by rw [← HO1.out.perm.length_eq];exact HO1.out.tlen)
    by_cases hlt:k < n
    ·obtain ⟨g,hq,hwg,hgr,hrc⟩:=HO1.out.row (by omega)
     subst hq;have hTn:=HO1.out.tlen;have hkz:k < zs.length:=by rw [HO1.out.len];exact hlt
     have hkT:k < (sortS S).length:=by rw [hTn];exact hlt
     have HRC:Hid (∀ j,j < n → ∀ W',Below wS.heap.size wS W' → Cells10 W' g (j * 10) (zs.getD j zeroC)):=Lib.hid (fun j hj W' hb => (hrc.cells10 (by rw [HO1.out.len];exact hj)).below hgr hb)
     have hc:=HRC.out k hlt wo hO.out.bel;have hum:=HO1.out.says.m hkT;have huk:=HO1.out.says.k hkT;have hub:=HO1.out.bod _ (getC_mem zs k hkz);have HTK:Hid (((dum (treeD ms S)).getD k zeroQ).m=nodeM ((sortS S).getD k ([],0)).1 (ms.getD ((sortS S).getD k ([],0)).2 zeroMv) (if (ms.getD ((sortS S).getD k ([],0)).2 zeroMv).kind=48 then leadD (sortS S) ((sortS S).getD k ([],0)).2 else [])):=Lib.hid (by rw [dum_get,treeD_get ms S hkT];rfl)
     obtain ⟨u,hu⟩:∃ u,zs.getD k zeroC=u:=⟨_,rfl⟩;obtain ⟨e,he⟩:∃ e,(sortS S).getD k ([],0)=e:=⟨_,rfl⟩;rw [hu] at hc hum huk hub;rw [he] at hum huk HTK;have HUM:=Lib.hid (And.intro hu (And.intro he (And.intro hum huk)));have HBU:Hid (BodAt wo u.x):=Lib.hid (hub.1.below (HO1.out.bel.trans (hO.out.bel.mono HO1.out.bel.size)));have HBL:=Lib.hid hub.2;have HKL:Hid (k < (dum (treeD ms S)).length):=Lib.hid (by rw [dum_len,treeD_count,HSN.out];exact hlt)
     obtain ⟨c0,c1,c2,c3,c4,c5,c6,c7,c8,c9⟩:=hc;have hltz:(k:Int) < (n:Int):=by omega
     clear hum huk hub hu he hkz hkT hTn hwg hgr hrc
     go_upto_region 14 with fail
     obtain ⟨w0,hw0⟩:∃ w0,wo.alloc (.cells #[.string (str u.x.m.path),.string (str u.x.m.target),.string (str u.x.m.leader),.int .u8 (u.x.m.kind.toNat:Int),.int .i64 u.x.m.mode,.int .i64 u.x.m.uid,.int .i64 u.x.m.gid,.int .i64 u.x.m.time,.slice u.x.p u.x.m.body.length u.x.c] 38)=w0:=⟨_,rfl⟩;have hX0:Blk w0 wo.heap.size 38 #[.string (str u.x.m.path),.string (str u.x.m.target),.string (str u.x.m.leader),.int .u8 (u.x.m.kind.toNat:Int),.int .i64 u.x.m.mode,.int .i64 u.x.m.uid,.int .i64 u.x.m.gid,.int .i64 u.x.m.time,.slice u.x.p u.x.m.body.length u.x.c]:=by rw [← hw0];exact Blk.new wo _ _
     have h00:Below wo.heap.size wo w0:=by rw [← hw0];exact (Below.refl _ _).alloc (Nat.le_refl _) _
     rw [hw0];have x2:=hX0.cell 2;have f2:=hX0.frozen 2;simp only [List.getElem?_toArray,List.getElem?_cons_zero,List.getElem?_cons_succ] at x2;have HX0:=Lib.hid hX0;have H00:=Lib.hid h00;clear hw0 hX0 h00 c0 c1 c2 c3 c4 c5 c6 c7 c8 c9
     go_upto_region 15 with fail
     obtain ⟨w1,hw1⟩:∃ w1,w0.setCell ⟨wo.heap.size,2,none⟩ (.string ⟨#[]⟩)=w1:=⟨_,rfl⟩
     have hX:Blk w1 wo.heap.size 38 #[.string (str u.x.m.path),.string (str u.x.m.target),.string (str ([]:List UInt8)),.int .u8 (u.x.m.kind.toNat:Int),.int .i64 u.x.m.mode,.int .i64 u.x.m.uid,.int .i64 u.x.m.gid,.int .i64 u.x.m.time,.slice u.x.p u.x.m.body.length u.x.c]:=by
      rw [← hw1];exact HX0.out.set 2 _ (by decide:2 < 9)
     have h01:Below wo.heap.size wo w1:=by rw [← hw1];exact H00.out.setCell (p:=⟨wo.heap.size,2,none⟩) (Nat.le_refl _) _
     rw [hw1];have HX:=Lib.hid hX;have H1:=Lib.hid h01;have HW1:=Lib.hid (hO.out.bel.trans (h01.mono hO.out.bel.size));have x3:=hX.cell 3;simp only [List.getElem?_toArray,List.getElem?_cons_zero,List.getElem?_cons_succ] at x3;have ek:=kind_ne1 u.x.m.kind 48 48 rfl;obtain ⟨kn,hkn⟩:∃ kn:Int,(u.x.m.kind.toNat:Int)=kn:=⟨_,rfl⟩;rw [hkn] at x3 ek;have HKN:=Lib.hid hkn;have HKU:Hid ((ms.getD e.2 zeroMv).kind=u.x.m.kind):=Lib.hid (by rw [HUM.out.2.2.1];rfl)
     clear hw1 hX h01 x2 f2 hkn
     go_wp2_with fail
     by_cases h48:u.x.m.kind=48
     ·rw [decide_eq_true h48] at ek
      have H48:=Lib.hid h48;have HK48:Hid ((ms.getD e.2 zeroMv).kind=48):=Lib.hid (by rw [HKU.out];exact h48)
      clear h48;clear x3
      go_loopw [8] (fun j wz => ∃ (a:Nat),a≤k∧j=.int .i64 (a:Int)∧Hid (Blk wz wo.heap.size 38 #[.string (str u.x.m.path),.string (str u.x.m.target),.string (str ([]:List UInt8)),.int .u8 (u.x.m.kind.toNat:Int),.int .i64 u.x.m.mode,.int .i64 u.x.m.uid,.int .i64 u.x.m.gid,.int .i64 u.x.m.time,.slice u.x.p u.x.m.body.length u.x.c])∧Hid (Below wo.heap.size wo wz)∧Hid (∀ i,i < a → ((sortS S).getD i ([],0)).2≠e.2)) (fun j _ => k+1 - (RowKit.intOf j).toNat)
      case atStart => exact ⟨0,Nat.zero_le _,rfl,HX,H1,Lib.hid (fun i hi => absurd hi (by omega))⟩
      case round =>
       clear HX H1 HW1;obtain ⟨a,ha,rfl,HX,H1,hN⟩:=hrel;have HW1:=Lib.hid (hO.out.bel.trans (H1.out.mono hO.out.bel.size));have x3:=HX.out.cell 3;simp only [List.getElem?_toArray,List.getElem?_cons_zero,List.getElem?_cons_succ,HKN.out] at x3;have hleq:(a:Int)≤(k:Int):=by omega
       have haT:a < (sortS S).length:=by rw [HO1.out.tlen];omega
       have hd:=HRC.out a (by omega) wr HW1.out
       have hcu:=(HRC.out k hlt wr HW1.out).2.2.2.2.2.2.2.2.2;have hvm:=HO1.out.says.m haT;have hvk:=HO1.out.says.k haT;rw [HUM.out.1] at hcu;have HAK:Hid (a=k → (zs.getD a zeroC)=u):=Lib.hid (fun h => by rw [h];exact HUM.out.1)
       obtain ⟨v,hv⟩:∃ v,zs.getD a zeroC=v:=⟨_,rfl⟩;rw [hv] at hd hvm hvk HAK;have HVM:=Lib.hid (And.intro haT (And.intro hvm hvk));obtain ⟨d0,d1,d2,d3,d4,d5,d6,d7,d8,d9⟩:=hd;have ek2:=kind_ne1 v.x.m.kind 48 48 rfl;obtain ⟨kv,hkv⟩:∃ kv:Int,(v.x.m.kind.toNat:Int)=kv:=⟨_,rfl⟩;rw [hkv] at d3 ek2;have haz:(a:Int) < (n:Int):=by omega
       clear hv hvm hvk haT hkv
       by_cases hcl:v.k=u.k
       ·have hv48:v.x.m.kind=48:=by
         have h1:=HVM.out.2.1;have h2:=HVM.out.2.2;have h3:=HUM.out.2.2.2;rw [h1,← h2,hcl,h3];exact HK48.out
        rw [decide_eq_true hv48] at ek2
        have HLD:Hid (leadD (sortS S) e.2=v.x.m.path):=Lib.hid (by
         have h2:((sortS S).getD a ([],0)).2=e.2:=by rw [← HVM.out.2.2,hcl];exact HUM.out.2.2.2
         rw [← h2];rw [leadD_self HVM.out.1 (fun j hj => by rw [h2];exact hN.out j hj),HVM.out.2.1]
         rfl)
        have HV:Hid (nodeX u.x.m v.x.m.path=((dum (treeD ms S)).getD k zeroQ).m):=Lib.hid (by
         rw [HTK.out,if_pos HK48.out,HLD.out,HUM.out.2.2.1]
         rfl)
        rw [hcl] at d9;have f2:=HX.out.frozen 2;have x2:=HX.out.cell 2;simp only [List.getElem?_toArray,List.getElem?_cons_zero,List.getElem?_cons_succ] at x2;clear hv48 hcl
        go_upto_region 18 with fail
        go_quiet (fail)
        go_upto_region 20 with fail
        obtain ⟨wq,hwq⟩:∃ wq,World.drewN wr nq=wq:=⟨_,rfl⟩;have hbq:Below wo.heap.size wo wq:=by rw [← hwq];exact below_drewN H1.out _
        have hxq:Blk wq wo.heap.size 38 #[.string (str u.x.m.path),.string (str u.x.m.target),.string (str ([]:List UInt8)),.int .u8 (u.x.m.kind.toNat:Int),.int .i64 u.x.m.mode,.int .i64 u.x.m.uid,.int .i64 u.x.m.gid,.int .i64 u.x.m.time,.slice u.x.p u.x.m.body.length u.x.c]:=by rw [← hwq];exact HX.out.drewN _
        obtain ⟨wT,hwT⟩:∃ wT,wq.setCell ⟨wo.heap.size,2,none⟩ (.string (str v.x.m.path))=wT:=⟨_,rfl⟩;rw [hwq,hwT];have H1':Hid (Below wo.heap.size wo wT):=Lib.hid (by rw [← hwT];exact hbq.setCell (p:=⟨wo.heap.size,2,none⟩) (Nat.le_refl _) _)
        have HX':Hid (Blk wT wo.heap.size 38 #[.string (str u.x.m.path),.string (str u.x.m.target),.string (str v.x.m.path),.int .u8 (u.x.m.kind.toNat:Int),.int .i64 u.x.m.mode,.int .i64 u.x.m.uid,.int .i64 u.x.m.gid,.int .i64 u.x.m.time,.slice u.x.p u.x.m.body.length u.x.c]):=Lib.hid (by rw [← hwT];exact hxq.set 2 _ (by decide:2 < 9))
        clear HX H1;have H1:=H1';have HX:=HX';clear H1' HX' hwT hbq hxq hwq x2 f2;have x7:=(HX.out.alloc (.cells #[] 5)).cell 8;simp only [List.getElem?_toArray,List.getElem?_cons_zero,List.getElem?_cons_succ] at x7;have HB1:=Lib.hid (HBU.out.below H1.out)
        go_wp2_with (at_builtin;refine append_bytes rfl _ _ 36 rfl wT.heap.size 5 i0 Tryd.underlying36 HI.out HZ0.out HZ1.out HZ2.out _ 0 [] rfl (World.ownsRow_made wT #[] 0 (Nat.le_refl _) (by decide) rfl) u.x.p u.x.m.body.length u.x.c u.x.m.body rfl (HB1.out.bat.alloc _) rfl (by have:=HBL.out;omega) (by first | simp | exact Nat.le_refl _) ?_)
        intro v2 w2 hown hgrow;have ho2:OwnB w2 wT.heap.size v2 u.x.m.body.length u.x.m.body:=by simpa [OwnB] using hown
        have hk2:Kept noneB wT w2:=(((Kept.refl noneB wT).alloc _)).grown hgrow (by intro k hk;simp [Value.ownBlock] at hk;omega)
        have h12:Below wT.heap.size wT w2:=hk2.below (Nat.le_refl _) (fun _ h => h.elim)
        obtain ⟨p2,c2,rfl,hle2,hmx2,hb2,_,hat2⟩:=ho2.slice;have hX2:=HX.out.below h12 HX.out.lt;have y7:=hX2.cell 8;have f7:=hX2.frozen 8;simp only [List.getElem?_toArray,List.getElem?_cons_zero,List.getElem?_cons_succ] at y7;have H2:=Lib.hid (H1.out.trans (h12.mono H1.out.size));have HB2:=Lib.hid hb2;have HAT:=Lib.hid hat2;have HX2:=Lib.hid hX2;clear hown hgrow ho2 hk2 h12 hb2 hat2 hX2 x7
        go_upto_region 21 with fail
        obtain ⟨w3,hw⟩:∃ w3,w2.setCell ⟨wo.heap.size,8,none⟩ (.slice p2 u.x.m.body.length c2)=w3:=⟨_,rfl⟩;have hX:Blk w3 wo.heap.size 38 #[.string (str u.x.m.path),.string (str u.x.m.target),.string (str v.x.m.path),.int .u8 (u.x.m.kind.toNat:Int),.int .i64 u.x.m.mode,.int .i64 u.x.m.uid,.int .i64 u.x.m.gid,.int .i64 u.x.m.time,.slice p2 u.x.m.body.length c2]:=by rw [← hw];exact HX2.out.set 8 _ (by decide:8 < 9)
        have hk3:Kept (oneB wo.heap.size) w2 w3:=by rw [← hw];exact (Kept.refl (oneB wo.heap.size) w2).setCell (a:=⟨wo.heap.size,8,none⟩) (.inr rfl) _
        have hb3:BAt w3 p2 u.x.m.body.length u.x.m.body:=HB2.out.kept hk3 (fun _ y hy e => by
         have h1:=(HAT.out y hy).1;have h2:y.block=wo.heap.size:=e;have h3:=HX.out.lt
         omega)
        have H3:Hid (Below wo.heap.size wo w3):=Lib.hid (by rw [← hw];exact H2.out.setCell (p:=⟨wo.heap.size,8,none⟩) (Nat.le_refl _) _)
        have z0:=hX.cell 0;have z1:=hX.cell 1;have z2:=hX.cell 2;have z3:=hX.cell 3;have z4:=hX.cell 4;have z5:=hX.cell 5;have z6:=hX.cell 6;have z7:=hX.cell 7;have z8:=hX.cell 8;simp only [List.getElem?_toArray,List.getElem?_cons_zero,List.getElem?_cons_succ] at z0 z1 z2 z3 z4 z5 z6 z7 z8;rw [hw];have HO3:=Lib.hid (hO.out.below H3.out);have HBY:Hid (BodAt w3 ⟨nodeX u.x.m v.x.m.path,p2,c2⟩):=Lib.hid ⟨hb3,hle2,hmx2⟩
        have HOFF:Hid (0 < u.x.m.body.length → ∀ z,p2=some z → o.ownBlock≠some z.block):=Lib.hid (fun _ z hz e => by
         have h1:=(HAT.out z hz).1;have h2:=(World.ownsRow.lt hO.out.row _ e).2;have h3:=H1.out.size
         omega)
        clear hw hX hk3 hb3 y7 f7
        go_wp2_with (at_builtin;refine append_node rfl _ _ rfl wS.heap.size o rs rfl (row_below HO3.out.row ((Below.refl _ _).alloc (Nat.le_refl _) _)) w3.heap.size 1 ⟨nodeX u.x.m v.x.m.path,p2,c2⟩ rfl (Blk.new w3 _ _) (by have:=HO3.out.len;omega) (by have:=HO3.out.bel.size;first | omega | (simp;omega)) ?_)
        intro v4 w4 hrow hg hnw;have h34:Below w3.heap.size w3 (w3.alloc (.cells #[.string (str u.x.m.path),.string (str u.x.m.target),.string (str v.x.m.path),.int .u8 (u.x.m.kind.toNat:Int),.int .i64 u.x.m.mode,.int .i64 u.x.m.uid,.int .i64 u.x.m.gid,.int .i64 u.x.m.time,.slice p2 u.x.m.body.length c2] 38)):=(Below.refl _ _).alloc (Nat.le_refl _) _;rw [show rs.length+1=(rs++[(⟨nodeX u.x.m v.x.m.path,p2,c2⟩:NP)]).length by simp] at hrow
        have HO4:Hid (OwnJ wS w4 (dum (treeD ms S)) (k+1) v4 (rs++[⟨nodeX u.x.m v.x.m.path,p2,c2⟩])):=Lib.hid ((HO3.out.below h34).add (y:=⟨nodeX u.x.m v.x.m.path,p2,c2⟩) HKL.out HV.out (HBY.out.below h34) HOFF.out hrow hg hnw);clear hrow hg hnw h34 z0 z1 z2 z3 z4 z5 z6 z7 z8
        go_wp2
        go_roundw
        case rel => exact ⟨k+1,_,_,by omega,rfl,by go_num,HO4⟩
        case measure => simp [RowKit.intOf];omega
       ·have e9:(((v.k:Int)) == (u.k:Int))=false:=by
         rw [beq_eq_false_iff_ne];omega
        have hne:¬ ((v.k:Int)=(u.k:Int)):=by omega
        have HN2:Hid (∀ i,i < a+1 → ((sortS S).getD i ([],0)).2≠e.2):=Lib.hid (fun i hi h => by
         by_cases h1:i=a
         ·apply hcl
          rw [HVM.out.2.2,HUM.out.2.2.2,← h1];exact h
         ·exact hN.out i (by omega) h)
        have hak:a < k:=by
         rcases Nat.lt_or_ge a k with h | h
         ·exact h
         ·exact absurd (congrArg CP.k (HAK.out (by omega))) hcl
        by_cases hv48:v.x.m.kind=48
        ·rw [decide_eq_true hv48] at ek2
         clear hv48 hcl
         go_upto_region 18 with fail
         go_quiet (fail)
         go_wp2
         go_roundw
         case rel => exact ⟨a+1,by omega,by go_num,Lib.hid (HX.out.drewN _),Lib.hid (below_drewN H1.out _),HN2⟩
         case measure => simp [RowKit.intOf];omega
        ·rw [decide_eq_false hv48] at ek2
         clear hv48 hcl
         go_upto_region 18 with fail
         go_quiet (fail)
         go_wp2
         go_roundw
         case rel => exact ⟨a+1,by omega,by go_num,Lib.hid (HX.out.drewN _),Lib.hid (below_drewN H1.out _),HN2⟩
         case measure => simp [RowKit.intOf];omega
     ·rw [decide_eq_false h48] at ek
      have HV:Hid (nodeX u.x.m ([]:List UInt8)=((dum (treeD ms S)).getD k zeroQ).m):=Lib.hid (by
       rw [HTK.out,if_neg (by rw [HKU.out];exact h48),HUM.out.2.2.1]
       rfl)
      clear h48
      go_loop [8] (fun j => j=.int .i64 0) (fun _ => 0)
      case atStart => rfl
      case round =>
       subst hrel;have hk0:(0:Int)≤(k:Int):=by omega
       go_upto_region 20 with fail
       have x7:=(HX.out.alloc (.cells #[] 5)).cell 8;simp only [List.getElem?_toArray,List.getElem?_cons_zero,List.getElem?_cons_succ] at x7;have HB1:=Lib.hid (HBU.out.below H1.out)
       go_wp2_with (at_builtin;refine append_bytes rfl _ _ 36 rfl w1.heap.size 5 i0 Tryd.underlying36 HI.out HZ0.out HZ1.out HZ2.out _ 0 [] rfl (World.ownsRow_made w1 #[] 0 (Nat.le_refl _) (by decide) rfl) u.x.p u.x.m.body.length u.x.c u.x.m.body rfl (HB1.out.bat.alloc _) rfl (by have:=HBL.out;omega) (by first | simp | exact Nat.le_refl _) ?_)
       intro v2 w2 hown hgrow;have ho2:OwnB w2 w1.heap.size v2 u.x.m.body.length u.x.m.body:=by simpa [OwnB] using hown
       have hk2:Kept noneB w1 w2:=(((Kept.refl noneB w1).alloc _)).grown hgrow (by intro k hk;simp [Value.ownBlock] at hk;omega)
       have h12:Below w1.heap.size w1 w2:=hk2.below (Nat.le_refl _) (fun _ h => h.elim)
       obtain ⟨p2,c2,rfl,hle2,hmx2,hb2,_,hat2⟩:=ho2.slice;have hX2:=HX.out.below h12 HX.out.lt;have y7:=hX2.cell 8;have f7:=hX2.frozen 8;simp only [List.getElem?_toArray,List.getElem?_cons_zero,List.getElem?_cons_succ] at y7;have H2:=Lib.hid (H1.out.trans (h12.mono H1.out.size));have HB2:=Lib.hid hb2;have HAT:=Lib.hid hat2;have HX2:=Lib.hid hX2;clear hown hgrow ho2 hk2 h12 hb2 hat2 hX2 x7
       go_upto_region 21 with fail
       obtain ⟨w3,hw⟩:∃ w3,w2.setCell ⟨wo.heap.size,8,none⟩ (.slice p2 u.x.m.body.length c2)=w3:=⟨_,rfl⟩;have hX:Blk w3 wo.heap.size 38 #[.string (str u.x.m.path),.string (str u.x.m.target),.string (str ([]:List UInt8)),.int .u8 (u.x.m.kind.toNat:Int),.int .i64 u.x.m.mode,.int .i64 u.x.m.uid,.int .i64 u.x.m.gid,.int .i64 u.x.m.time,.slice p2 u.x.m.body.length c2]:=by rw [← hw];exact HX2.out.set 8 _ (by decide:8 < 9)
       have hk3:Kept (oneB wo.heap.size) w2 w3:=by rw [← hw];exact (Kept.refl (oneB wo.heap.size) w2).setCell (a:=⟨wo.heap.size,8,none⟩) (.inr rfl) _
       have hb3:BAt w3 p2 u.x.m.body.length u.x.m.body:=HB2.out.kept hk3 (fun _ y hy e => by
        have h1:=(HAT.out y hy).1;have h2:y.block=wo.heap.size:=e;have h3:=HX.out.lt
        omega)
       have H3:Hid (Below wo.heap.size wo w3):=Lib.hid (by rw [← hw];exact H2.out.setCell (p:=⟨wo.heap.size,8,none⟩) (Nat.le_refl _) _)
       have z0:=hX.cell 0;have z1:=hX.cell 1;have z2:=hX.cell 2;have z3:=hX.cell 3;have z4:=hX.cell 4;have z5:=hX.cell 5;have z6:=hX.cell 6;have z7:=hX.cell 7;have z8:=hX.cell 8;simp only [List.getElem?_toArray,List.getElem?_cons_zero,List.getElem?_cons_succ] at z0 z1 z2 z3 z4 z5 z6 z7 z8;rw [hw];have HO3:=Lib.hid (hO.out.below H3.out);have HBY:Hid (BodAt w3 ⟨nodeX u.x.m ([]:List UInt8),p2,c2⟩):=Lib.hid ⟨hb3,hle2,hmx2⟩
       have HOFF:Hid (0 < u.x.m.body.length → ∀ z,p2=some z → o.ownBlock≠some z.block):=Lib.hid (fun _ z hz e => by
        have h1:=(HAT.out z hz).1;have h2:=(World.ownsRow.lt hO.out.row _ e).2;have h3:=H1.out.size
        omega)
       clear hw hX hk3 hb3 y7 f7
       go_wp2_with (at_builtin;refine append_node rfl _ _ rfl wS.heap.size o rs rfl (row_below HO3.out.row ((Below.refl _ _).alloc (Nat.le_refl _) _)) w3.heap.size 1 ⟨nodeX u.x.m ([]:List UInt8),p2,c2⟩ rfl (Blk.new w3 _ _) (by have:=HO3.out.len;omega) (by have:=HO3.out.bel.size;first | omega | (simp;omega)) ?_)
       intro v4 w4 hrow hg hnw;have h34:Below w3.heap.size w3 (w3.alloc (.cells #[.string (str u.x.m.path),.string (str u.x.m.target),.string (str ([]:List UInt8)),.int .u8 (u.x.m.kind.toNat:Int),.int .i64 u.x.m.mode,.int .i64 u.x.m.uid,.int .i64 u.x.m.gid,.int .i64 u.x.m.time,.slice p2 u.x.m.body.length c2] 38)):=(Below.refl _ _).alloc (Nat.le_refl _) _;rw [show rs.length+1=(rs++[(⟨nodeX u.x.m ([]:List UInt8),p2,c2⟩:NP)]).length by simp] at hrow
       have HO4:Hid (OwnJ wS w4 (dum (treeD ms S)) (k+1) v4 (rs++[⟨nodeX u.x.m ([]:List UInt8),p2,c2⟩])):=Lib.hid ((HO3.out.below h34).add (y:=⟨nodeX u.x.m ([]:List UInt8),p2,c2⟩) HKL.out HV.out (HBY.out.below h34) HOFF.out hrow hg hnw);clear hrow hg hnw h34 z0 z1 z2 z3 z4 z5 z6 z7 z8
       go_wp2
       go_roundw
       case rel => exact ⟨k+1,_,_,by omega,rfl,by go_num,HO4⟩
       case measure => simp [RowKit.intOf];omega
    ·obtain rfl:k=n:=by omega
     have hks:¬ ((k:Int) < (k:Int)):=by omega
     have hlen:=hO.out.len;obtain ⟨q2,d,rfl,_,_,hm⟩:=nodes_own hO.out.row hO.out.bodies;rw [hlen] at hm ⊢;have HMM:=Lib.hid hm;clear hm hlen
     go_wp2
     go_ret
     refine ⟨q2,d,rs,rfl,?_,HMM.out,HO1.out.bel.trans (hO.out.bel.mono HO1.out.bel.size)⟩;rw [hO.out.same,List.take_of_length_le (by rw [dum_len,treeD_count,HSN.out];exact Nat.le_refl _),dum_m]
end Go.Proofs.YthaoohbdjlbaeaaDoor.Tre
end
section
namespace Go.Proofs.YthaoohbdjlbaeaaDoor.Tre
open Go.ChangeShapes Go.WideShapes Go.ChangeAt Go.RowKit Base Byt Txt Bk Rec Block Mem Go.Lib
set_option linter.unusedVariables false
set_option maxRecDepth 100000
theorem says_paths {ms:List MemV} {ys:List CP} {S:St} (h:Says ms ys S):pathsC ys=S.map (·.1):=by
 have:=congrArg (List.map fun x:NodeV × Nat => x.1.path) h
 rw [List.map_map,List.map_map] at this;exact this
theorem look_none {S:St} {p:List UInt8} (h:atC (S.map (·.1)) p=none):look S p=none:=by
 unfold atC at h;rw [List.findIdx?_eq_none_iff] at h;unfold look
 rw [List.find?_eq_none.2 (fun e he => by
  have:=h e.1 (List.mem_map.2 ⟨e,he,rfl⟩)
  simpa using this)]
 rfl
theorem look_some {S:St} {p:List UInt8} {f:Nat} (h:atC (S.map (·.1)) p=some f):f < S.length∧look S p=some (S.getD f ([],0)).2:=by
 unfold atC at h;rw [List.findIdx?_eq_some_iff_getElem] at h;obtain ⟨hf,h1,h2⟩:=h;rw [List.length_map] at hf;refine ⟨hf,?_⟩;unfold look
 have:S.find? (fun e => e.1 == p)=some S[f]:=by
  rw [List.find?_eq_some_iff_getElem];refine ⟨by simpa using h1,f,hf,rfl,fun j hj => ?_⟩
  have:=h2 j hj
  simpa using this
 rw [this,getS_eq hf];rfl
structure FldI (W0 w wr:World) (ms:List MemV) (S:St) (o:Value) (ys:List CP):Prop where
 bel:Below w.heap.size w wr
 row:wr.ownsRow w.heap.size 56 10 o ys.length (flatC ys)
 says:Says ms ys S
 bod:∀ y ∈ ys,BodAt W0 y.x∧y.x.m.body.length≤140737488351232
section
variable {W0 w wr w':World} {ms:List MemV} {S:St} {o:Value} {ys:List CP}
theorem FldI.below (h:FldI W0 w wr ms S o ys) (hb:Below wr.heap.size wr w'):FldI W0 w w' ms S o ys where
 bel:=h.bel.trans (hb.mono h.bel.size)
 row:=row_below h.row hb
 says:=h.says
 bod:=h.bod
theorem FldI.add (h:FldI W0 w wr ms S o ys) {y:CP} {e:List UInt8 × Nat} (hy:vC y=clsD ms e) (hb:BodAt W0 y.x∧y.x.m.body.length≤140737488351232)
 {o':Value} (hrow:w'.ownsRow w.heap.size 56 10 o' (ys++[y]).length (flatC (ys++[y]))) (hg:wr.grownBy w' o.ownBlock):FldI W0 w w' ms (S++[e]) o' (ys++[y]) where
 bel:=h.bel.trans (((Kept.refl (fun b => o.ownBlock=some b) wr).grown hg (fun k hk => .inr hk)).below h.bel.size (fun k hk => (World.ownsRow.lt h.row _ hk).1))
 row:=hrow
 says:=h.says.snoc hy
 bod:=fun x hx => by
  rcases List.mem_append.1 hx with hx | hx
  ·exact h.bod x hx
  ·rw [List.mem_singleton.1 hx]
   exact hb
theorem FldI.cls (h:FldI W0 w wr ms S o ys) (hw:Below W0.heap.size W0 wr):∃ p c,o=.slice p ys.length c∧ys.length≤c∧c≤maxLen∧ClsAt wr p ys.length ys:=cls_own h.row (fun y hy => (h.bod y hy).1.below hw)
theorem FldI.next {w2 w5:World} {S2:St} {o2:Value} {ys2:List CP} (h:FldI W0 w2 w5 ms S2 o2 ys2) (hb:Below w.heap.size w w2):FldI W0 w w5 ms S2 o2 ys2 where
 bel:=hb.trans (h.bel.mono hb.size)
 row:=⟨h.row.1,h.row.2.imp id fun ⟨g,cap,cur,h1,h2,h3⟩ => ⟨g,cap,cur,h1,Nat.le_trans hb.size h2,h3⟩⟩
 says:=h.says
 bod:=h.bod
end
theorem nodes_off {w w':World} {g:Nat} {t:TypeId} {a b:Int} {q:Option Addr} {n:Nat} {zs:List NP} (hb:Blk w g t #[.int .i64 a,.int .i64 b]) (h:NodesAt w q n zs) (hk:Kept (oneB g) w w'):NodesAt w' q n zs:=by
 have hne:∀ {i:Nat} {v:Value},w.cell? ⟨g,i,none⟩=some v → v=.int .i64 a ∨ v=.int .i64 b:=fun {i v} hv => by
  rw [hb.cell] at hv
  match i,hv with
  | 0,hv => cases hv;exact .inl rfl
  | 1,hv => cases hv;exact .inr rfl
 refine ⟨h.1,fun y hy => (h.2.1 y hy).kept hk (fun h0 z hz hg => ?_),fun h0 => ?_⟩
 ·obtain ⟨b',o,he,_,hc⟩:=(h.2.1 y hy).bat.cell h0
  rw [hz] at he
  cases he
  have e:b'=g:=hg;have c0:=hc 0 h0;rw [e] at c0;rcases hne c0 with h | h<;>cases h
 ·obtain ⟨b',o,he,hbw,hc⟩:=h.2.2 h0
  refine ⟨b',o,he,Nat.lt_of_lt_of_le hbw hk.size,fun i hi j hj => ?_⟩
  have hng:b'≠g:=fun e => by
   have c0:=hc 0 h0 0 (by omega)
   rw [e] at c0;rcases hne c0 with h | h<;>cases h
  rw [World.cell?_of_block (hk.block b' hbw (fun h => hng h))]
  exact hc i hi j hj
theorem bod_of {w:World} {x:MP} (h:BodyAt w x) (p:List UInt8):BodAt w ⟨nodeM p x.m [],x.p,x.c⟩:=⟨h.bat,h.le,h.mx⟩
theorem neqS (a b:List UInt8):((str a).toList == (str b).toList)=decide (a=b):=by
 rw [str_toList,str_toList]
 by_cases h:a=b<;>simp [h]
theorem take_filter (S:St) (p:List UInt8) (j:Nat) (hj:j < S.length):(S.take (j+1)).filter (fun e => !(e.1 == p))=(S.take j).filter (fun e => !(e.1 == p))++(if (S.getD j ([],0)).1=p then [] else [S.getD j ([],0)]):=by
 rw [List.take_succ_eq_append_getElem hj,List.filter_append,getS_eq hj]
 congr 1
 by_cases h:S[j].1=p
 ·rw [if_pos h];simp [h]
 ·rw [if_neg h];simp [h]
theorem blk10p {w:World} {g:Nat} {t:TypeId} {b0 b1 b2 b3 b4 b5 b6 b7 b8 b9:Value} (hb:Blk w g t #[b0,b1,b2,b3,b4,b5,b6,b7,b8,b9]) (a0 a1 a2 a3 a4 a5 a6 a7 a8 a9 p:Value) :
 Blk (((((((((((w.setCell ⟨g,0,none⟩ a0).setCell ⟨g,1,none⟩ a1).setCell ⟨g,2,none⟩ a2).setCell ⟨g,3,none⟩ a3).setCell ⟨g,4,none⟩ a4).setCell ⟨g,5,none⟩ a5).setCell ⟨g,6,none⟩ a6).setCell ⟨g,7,none⟩ a7).setCell ⟨g,8,none⟩ a8).setCell ⟨g,9,none⟩ a9).setCell ⟨g,0,none⟩ p) g t #[p,a1,a2,a3,a4,a5,a6,a7,a8,a9]:=
 ((((((((((hb.set 0 a0 (by show 0 < 10;decide)).set 1 a1 (by show 1 < 10;decide)).set 2 a2 (by show 2 < 10;decide)).set 3 a3 (by show 3 < 10;decide)).set 4 a4 (by show 4 < 10;decide)).set 5 a5 (by show 5 < 10;decide)).set 6 a6 (by show 6 < 10;decide)).set 7 a7 (by show 7 < 10;decide)).set 8 a8 (by show 8 < 10;decide)).set 9 a9 (by show 9 < 10;decide)).set 0 p (by show 0 < 10;decide)
theorem below10p {w w':World} {n g:Nat} (hk:Below n w w') (hg:n≤g) (a0 a1 a2 a3 a4 a5 a6 a7 a8 a9 p:Value):Below n w (((((((((((w'.setCell ⟨g,0,none⟩ a0).setCell ⟨g,1,none⟩ a1).setCell ⟨g,2,none⟩ a2).setCell ⟨g,3,none⟩ a3).setCell ⟨g,4,none⟩ a4).setCell ⟨g,5,none⟩ a5).setCell ⟨g,6,none⟩ a6).setCell ⟨g,7,none⟩ a7).setCell ⟨g,8,none⟩ a8).setCell ⟨g,9,none⟩ a9).setCell ⟨g,0,none⟩ p):=
 ((((((((((hk.setCell (p:=⟨g,0,none⟩) hg a0).setCell (p:=⟨g,1,none⟩) hg a1).setCell (p:=⟨g,2,none⟩) hg a2).setCell (p:=⟨g,3,none⟩) hg a3).setCell (p:=⟨g,4,none⟩) hg a4).setCell (p:=⟨g,5,none⟩) hg a5).setCell (p:=⟨g,6,none⟩) hg a6).setCell (p:=⟨g,7,none⟩) hg a7).setCell (p:=⟨g,8,none⟩) hg a8).setCell (p:=⟨g,9,none⟩) hg a9).setCell (p:=⟨g,0,none⟩) hg p
theorem other10p {w:World} {b g:Nat} {t:TypeId} {cs:Array Value} (hb:Blk w b t cs) (hne:g≠b) (a0 a1 a2 a3 a4 a5 a6 a7 a8 a9 p:Value):Blk (((((((((((w.setCell ⟨g,0,none⟩ a0).setCell ⟨g,1,none⟩ a1).setCell ⟨g,2,none⟩ a2).setCell ⟨g,3,none⟩ a3).setCell ⟨g,4,none⟩ a4).setCell ⟨g,5,none⟩ a5).setCell ⟨g,6,none⟩ a6).setCell ⟨g,7,none⟩ a7).setCell ⟨g,8,none⟩ a8).setCell ⟨g,9,none⟩ a9).setCell ⟨g,0,none⟩ p) b t cs:=
 ((((((((((hb.other hne a0).other hne a1).other hne a2).other hne a3).other hne a4).other hne a5).other hne a6).other hne a7).other hne a8).other hne a9).other hne p
def nodeP (m:NodeV) (p:List UInt8):NodeV:=⟨p,m.target,m.leader,m.kind,m.mode,m.uid,m.gid,m.time,m.body⟩
def RFoldPost (w:World) (ms:List MemV) (e:Ending) (w':World):Prop:=
 ∃ q d zs,e=.returned (.tuple #[.slice q (foldD ms).1.length d,.agg #[.int .i64 (foldD ms).2.1,.int .i64 ((foldD ms).2.2:Int)]])∧zs.map NP.m=(foldD ms).1∧NodesAt w' q (foldD ms).1.length zs∧Below w.heap.size w w'
theorem rfold_none {w w':World} {ms:List MemV} {e i:Int} {k:Nat} (h:foldD ms=([],e,k)) (hb:Below w.heap.size w w') (hi:i=(k:Int)):RFoldPost w ms (.returned (.tuple #[.slice none 0 0,.agg #[.int .i64 e,.int .i64 i]])) w':=
 ⟨none,0,[],by rw [h,hi];rfl,by rw [h];rfl,by rw [h];exact nodes_nil _ _,hb⟩
set_option maxHeartbeats 8000000 in
theorem rfold_any (p:Option Addr) (n c:Nat) (xs:List MP) (w:World) (hM:MemsAt w p n xs) (hn:n≤1000) (hF:∀ x ∈ xs,x.m.path.length≤140737488351232∧x.m.target.length≤140737488351232∧x.m.body.length≤140737488351232) :
 Calls Tryd.prog 12 #[.slice p n c] w (RFoldPost w (xs.map MP.m)):=by
 obtain ⟨W,hW⟩:∃ W,w.alloc (.cells #[.int .i64 0,.int .i64 0] 28)=W:=⟨_,rfl⟩;have hB0:Below w.heap.size w W:=by rw [← hW];exact (Below.refl _ _).alloc (Nat.le_refl _) _
 have hX0:Blk W w.heap.size 28 #[.int .i64 0,.int .i64 0]:=by rw [← hW];exact Blk.new w _ _
 have HM:=Lib.hid (hM.below hB0);have HL:=Lib.hid hM.1;have HF:=Lib.hid hF;have HB0:=Lib.hid hB0;have HX0:=Lib.hid hX0;clear hM hF hB0 hX0
 go_enter Tryd.func12,Tryd.ntmps12
 go_upto_region 1 with fail
 clear hW
 go_wp2_with fail
 go_loopw [4] (fun i wr => ∃ (k:Nat),k≤n∧i=.int .i64 (k:Int)∧Hid (∀ m ∈ (xs.map MP.m).take k,goodD m=true)∧Hid (Below W.heap.size W wr)) (fun i _ => n - (RowKit.intOf i).toNat)
 case atStart => exact ⟨0,Nat.zero_le _,rfl,Lib.hid (by simp),Lib.hid (Below.refl _ _)⟩
 case round =>
  obtain ⟨k,hk,rfl,hG,hB⟩:=hrel
  by_cases hlt:k < n
  ·have hltz:(k:Int) < (n:Int):=by omega
   have hkl:k < xs.length:=by rw [HL.out];exact hlt
   have hT:=takeP_succ xs k hkl;have hmem:=getP_mem xs k hkl;obtain ⟨b1,o1,rfl,hb1,hB1,hc1⟩:=(HM.out.below hB.out).cells8 hlt;have HKL:=Lib.hid (And.intro hkl (getM_map xs k));obtain ⟨y,hy⟩:∃ y,xs.getD k zeroP=y:=⟨_,rfl⟩;rw [hy] at hT hmem hc1 HKL;have HT:=Lib.hid hT;have HMEM:=Lib.hid hmem;obtain ⟨c0,c1,c2,c3,c4,c5,c6,c7⟩:=hc1;clear hB1 hb1 hy hT hmem hkl
   go_wp2_with fail
   refine (rgood_any y.m y.p y.c _ (HF.out y HMEM.out).1 (HF.out y HMEM.out).2.1).mono ?_
   rintro e w4 ⟨rfl,hb4⟩;have HB4:=Lib.hid (hB.out.trans (hb4.mono hB.out.size));clear hb4 c0 c1 c2 c3 c4 c5 c6 c7;obtain ⟨g,hg⟩:∃ g,goodD y.m=g:=⟨_,rfl⟩;rw [hg]
   cases g with
   | false =>
     have E:=Lib.hid (foldD_bad (ms:=xs.map MP.m) (badAt_some (k:=k) (by rw [List.length_map];exact HKL.out.1) hG.out (by rw [HKL.out.2];exact hg)))
     have hX4:=HX0.out.below HB4.out HX0.out.lt;have HX4:=Lib.hid hX4;have x0:=hX4.cell 0;have x1:=hX4.cell 1;have f0:=hX4.frozen 0;have f1:=hX4.frozen 1;simp only [List.getElem?_toArray,List.getElem?_cons_zero,List.getElem?_cons_succ] at x0 x1;clear hg hX4
     go_wp2
     refine bodyPost_ret (ret_fold rfl _ _ w.heap.size _ rfl rfl 1 (k:Int) (blk_flt HX4.out _ _)) rfl ?_
     have hb:=HB0.out.trans (HB4.out.mono HB0.out.size);exact rfold_none E.out ((hb.setCell (p:=⟨w.heap.size,0,none⟩) (Nat.le_refl _) _).setCell (p:=⟨w.heap.size,1,none⟩) (Nat.le_refl _) _) rfl
   | true =>
     have HG2:Hid (∀ m ∈ (xs.map MP.m).take (k+1),goodD m=true):=Lib.hid (by
      rw [← List.map_take,HT.out];intro m hm;rcases List.mem_append.1 hm with h | h
      ·exact hG.out m (by rw [← List.map_take];exact h)
      ·rw [List.mem_singleton] at h
       rw [h]
       exact hg)
     clear hg
     go_wp2
     go_roundw
     case rel => exact ⟨k+1,by omega,by go_num,HG2,HB4⟩
     case measure => simp [RowKit.intOf];omega
  ·have hks:¬ ((k:Int) < (n:Int)):=by omega
   have HBAD:Hid (badAt (xs.map MP.m)=none):=Lib.hid (badAt_none fun m hm => hG.out m (by rw [List.take_of_length_le (by rw [List.length_map,HL.out];omega)];exact hm))
   clear hG;have HI0:Hid (FldI W W wr (xs.map MP.m) [] (.slice none 0 0) []):=Lib.hid ⟨hB.out,World.ownsRow_nil _ _ _ _,rfl,fun y hy => (by cases hy)⟩
   clear hB
   go_wp2_with fail
   go_loopw [5,6,7,8,9,10,11] (fun l i _ _ _ _ _ wr => ∃ (k:Nat) (S:St) (ys:List CP) (vo:Value),k≤n∧vo=l∧i=.int .i64 (k:Int)∧Hid (laysD (xs.map MP.m) k=.ok S)∧Hid (FldI W W wr (xs.map MP.m) S vo ys)) (fun _ i _ _ _ _ _ _ => n - (RowKit.intOf i).toNat)
   case atStart => exact ⟨0,[],[],_,Nat.zero_le _,rfl,rfl,Lib.hid rfl,HI0⟩
   case round =>
    clear HI0 hks hk;obtain ⟨k,S,ys,l,hk,rfl,rfl,hS,hI⟩:=hrel;obtain ⟨wo,rfl⟩:∃ x,x=wr:=⟨_,rfl⟩;obtain ⟨ql,cl,rfl,hcl1,hcl2,hcls⟩:=hI.out.cls hI.out.bel;have hsl:=hI.out.says.len;have hSk:S.length≤k:=(laysD_ok _ _ _ hS.out).len;have HSL:=Lib.hid (And.intro hsl hSk);have hyl:ys.length≤1000:=by omega
    have HCL:=Lib.hid (And.intro hcl1 (And.intro hcl2 hcls));clear hcl1 hcl2 hcls hsl hSk
    by_cases hlt:k < n
    ·have hltz:(k:Int) < (n:Int):=by omega
     have hkl:k < xs.length:=by rw [HL.out];exact hlt
     have hmem:=getP_mem xs k hkl;obtain ⟨b1,o1,rfl,hb1,hB1,hc1⟩:=(HM.out.below hI.out.bel).cells8 hlt;have hgm:=getM_map xs k;have hbv:=HM.out.2.1 _ hmem;obtain ⟨v,hv⟩:∃ v,xs.getD k zeroP=v:=⟨_,rfl⟩;rw [hv] at hmem hc1 hgm hbv;have HV:=Lib.hid (And.intro hkl (And.intro hmem (And.intro hgm hbv)));have HKN:Hid ((xs.map MP.m).length=k+1+(n - (k+1))):=Lib.hid (by rw [List.length_map,HL.out];omega)
     obtain ⟨c0,c1,c2,c3,c4,c5,c6,c7⟩:=hc1;clear hB1 hb1 hv hmem hgm hbv hkl
     go_upto_region 12 with fail
     obtain ⟨w1,hw1⟩:∃ w1,(wo.alloc (.cells #[.string (str v.m.path),.string (str v.m.target),.int .u8 (v.m.kind.toNat:Int),.int .i64 v.m.mode,.int .i64 v.m.uid,.int .i64 v.m.gid,.int .i64 v.m.time,.slice v.p v.m.body.length v.c] 45)).alloc (.cells #[.string (str v.m.path),.string (str v.m.target),.string ⟨#[]⟩,.int .u8 (v.m.kind.toNat:Int),.int .i64 v.m.mode,.int .i64 v.m.uid,.int .i64 v.m.gid,.int .i64 v.m.time,.slice v.p v.m.body.length v.c,.int .i64 (k:Int)] 56)=w1:=⟨_,rfl⟩;have hm1:Blk w1 wo.heap.size 45 #[.string (str v.m.path),.string (str v.m.target),.int .u8 (v.m.kind.toNat:Int),.int .i64 v.m.mode,.int .i64 v.m.uid,.int .i64 v.m.gid,.int .i64 v.m.time,.slice v.p v.m.body.length v.c]:=by rw [← hw1];exact (Blk.new wo _ _).alloc _
     have hx1:Blk w1 (wo.heap.size+1) 56 #[.string (str v.m.path),.string (str v.m.target),.string ⟨#[]⟩,.int .u8 (v.m.kind.toNat:Int),.int .i64 v.m.mode,.int .i64 v.m.uid,.int .i64 v.m.gid,.int .i64 v.m.time,.slice v.p v.m.body.length v.c,.int .i64 (k:Int)]:=by
      rw [← hw1,← World.size_alloc wo (.cells #[.string (str v.m.path),.string (str v.m.target),.int .u8 (v.m.kind.toNat:Int),.int .i64 v.m.mode,.int .i64 v.m.uid,.int .i64 v.m.gid,.int .i64 v.m.time,.slice v.p v.m.body.length v.c] 45)];exact Blk.new _ _ _
     have h01:Below wo.heap.size wo w1:=by rw [← hw1];exact ((Below.refl _ _).alloc (Nat.le_refl _) _).alloc (by rw [World.size_alloc];exact Nat.le_succ _) _
     rw [hw1];have m0:=hm1.cell 0;have m1:=hm1.cell 1;have m2:=hm1.cell 2;simp only [List.getElem?_toArray,List.getElem?_cons_zero,List.getElem?_cons_succ] at m0 m1 m2;have HM1:=Lib.hid hm1;have HX1:=Lib.hid hx1;have H01:=Lib.hid h01;have ek:=kind_ne1 v.m.kind 49 49 rfl;obtain ⟨kn,hkn⟩:∃ kn:Int,(v.m.kind.toNat:Int)=kn:=⟨_,rfl⟩;rw [hkn] at m2 ek;clear hw1 hm1 hx1 h01 c0 c1 c2 c3 c4 c5 c6 c7 hkn
     by_cases h49:v.m.kind=49
     ·rw [decide_eq_true h49] at ek
      have H49:=Lib.hid h49;have HCL1:=Lib.hid (HCL.out.2.2.below H01.out);have hat:=rat_any ql ys.length cl ys v.m.target w1 HCL1.out (by have:=HCL.out.1;have:=HCL.out.2.1;omega)
      rw [says_paths hI.out.says] at hat;have HATQ:=Lib.hid hat
      have HLD:Hid (layD (xs.map MP.m) S k=match look S v.m.target with | none => none | some n => if ((xs.map MP.m).getD n zeroMv).kind=48 then some (putS S v.m.path n) else none):=Lib.hid (by
       unfold layD
       dsimp only
       rw [HV.out.2.2.1,if_pos H49.out]
       all_goals (cases look S v.m.target<;>rfl))
      clear h49 hat
      go_wp2_with fail
      refine HATQ.out.mono ?_
      rintro e w' ⟨rfl,rfl⟩;clear HATQ;obtain ⟨fo,hfo⟩:∃ fo,atC (S.map (·.1)) v.m.target=fo:=⟨_,rfl⟩
      rw [hfo]
      cases fo with
      | none =>
        have HLK:=Lib.hid (look_none hfo);have E:=Lib.hid (foldD_link HBAD.out (i:=k) (by rw [HKN.out];exact laysD_stay (laysD_fall hS.out (by rw [HLD.out,HLK.out])) _))
        have hBX:=hI.out.bel.trans (H01.out.mono hI.out.bel.size);have HBX:=Lib.hid hBX;have hX4:=HX0.out.below hBX HX0.out.lt;have HX4:=Lib.hid hX4;have x0:=hX4.cell 0;have x1:=hX4.cell 1;have f0:=hX4.frozen 0;have f1:=hX4.frozen 1;simp only [List.getElem?_toArray,List.getElem?_cons_zero,List.getElem?_cons_succ] at x0 x1;clear hX4 hBX hfo m0 m1 m2;simp only [atZ]
        go_wp2
        refine bodyPost_ret (ret_fold rfl _ _ w.heap.size _ rfl rfl 7 (k:Int) (blk_flt HX4.out _ _)) rfl ?_
        have hb:=HB0.out.trans (HBX.out.mono HB0.out.size);exact rfold_none E.out ((hb.setCell (p:=⟨w.heap.size,0,none⟩) (Nat.le_refl _) _).setCell (p:=⟨w.heap.size,1,none⟩) (Nat.le_refl _) _) rfl
      | some f =>
        obtain ⟨hf,hlk⟩:=look_some hfo;have hfy:f < ys.length:=by rw [HSL.out.1];exact hf
        obtain ⟨b2,o2,he2,hb2,_,hc2⟩:=HCL1.out.cells10 hfy;subst he2;have hum:=hI.out.says.m hf;have huk:=hI.out.says.k hf;have hub:=hI.out.bod _ (getC_mem ys f hfy);obtain ⟨u,hu⟩:∃ u,ys.getD f zeroC=u:=⟨_,rfl⟩;rw [hu] at hc2 hum huk hub;obtain ⟨nn,hnn⟩:∃ nn,(S.getD f ([],0)).2=nn:=⟨_,rfl⟩;rw [hnn] at hlk hum huk;have HUM:=Lib.hid (And.intro hum (And.intro huk hub));have HLK:=Lib.hid hlk;obtain ⟨d0,d1,d2,d3,d4,d5,d6,d7,d8,d9⟩:=hc2;have ek8:=kind_nq1 u.x.m.kind 48 48 rfl;have hfz:(f:Int) < (ys.length:Int):=by omega
        have hf0:(0:Int)≤(f:Int):=by omega
        have hf9:decide ((f:Int) < 0)=false:=decide_eq_false (by omega)
        have hku:u.x.m.kind=((xs.map MP.m).getD nn zeroMv).kind:=by rw [hum];rfl
        obtain ⟨ku,hku2⟩:∃ ku:Int,(u.x.m.kind.toNat:Int)=ku:=⟨_,rfl⟩;have HKU:=Lib.hid (And.intro hku hku2);rw [hku2] at d3 ek8;clear hfo hf hlk hfy hb2 hum huk hub hu hnn hku hku2;simp only [atZ]
        by_cases h48:u.x.m.kind=48
        ·rw [decide_eq_true h48,Bool.not_true] at ek8
         have HLY:Hid (layD (xs.map MP.m) S k=some (putS S v.m.path nn)):=Lib.hid (by
          rw [HLD.out,HLK.out]
          dsimp only
          rw [← HKU.out.1,if_pos h48])
         have g0:=HX1.out.frozen 0;have g1:=HX1.out.frozen 1;have g2:=HX1.out.frozen 2;have g3:=HX1.out.frozen 3;have g4:=HX1.out.frozen 4;have g5:=HX1.out.frozen 5;have g6:=HX1.out.frozen 6;have g7:=HX1.out.frozen 7;have g8:=HX1.out.frozen 8;have g9:=HX1.out.frozen 9;have r0:=HX1.out.cell 0;have r1:=HX1.out.cell 1;have r2:=HX1.out.cell 2;have r3:=HX1.out.cell 3;have r4:=HX1.out.cell 4;have r5:=HX1.out.cell 5;have r6:=HX1.out.cell 6;have r7:=HX1.out.cell 7;have r8:=HX1.out.cell 8;have r9:=HX1.out.cell 9;simp only [List.getElem?_toArray,List.getElem?_cons_zero,List.getElem?_cons_succ] at r0 r1 r2 r3 r4 r5 r6 r7 r8 r9
         clear h48
         go_upto_region 18 with fail
         have hq:=HKU.out.2;subst hq;obtain ⟨wT,hwT⟩:∃ wT,((((((((((w1.setCell ⟨wo.heap.size+1,0,none⟩ (.string (str u.x.m.path))).setCell ⟨wo.heap.size+1,1,none⟩ (.string (str u.x.m.target))).setCell ⟨wo.heap.size+1,2,none⟩ (.string (str u.x.m.leader))).setCell ⟨wo.heap.size+1,3,none⟩ (.int .u8 (u.x.m.kind.toNat:Int))).setCell ⟨wo.heap.size+1,4,none⟩ (.int .i64 u.x.m.mode)).setCell ⟨wo.heap.size+1,5,none⟩ (.int .i64 u.x.m.uid)).setCell ⟨wo.heap.size+1,6,none⟩ (.int .i64 u.x.m.gid)).setCell ⟨wo.heap.size+1,7,none⟩ (.int .i64 u.x.m.time)).setCell ⟨wo.heap.size+1,8,none⟩ (.slice u.x.p u.x.m.body.length u.x.c)).setCell ⟨wo.heap.size+1,9,none⟩ (.int .i64 (u.k:Int))).setCell ⟨wo.heap.size+1,0,none⟩ (.string (str v.m.path))=wT:=⟨_,rfl⟩
         rw [hwT]
         have HXc:Hid (Blk wT (wo.heap.size+1) 56 #[.string (str v.m.path),.string (str u.x.m.target),.string (str u.x.m.leader),.int .u8 (u.x.m.kind.toNat:Int),.int .i64 u.x.m.mode,.int .i64 u.x.m.uid,.int .i64 u.x.m.gid,.int .i64 u.x.m.time,.slice u.x.p u.x.m.body.length u.x.c,.int .i64 (u.k:Int)]):=Lib.hid (by
          rw [← hwT]
          exact blk10p HX1.out _ _ _ _ _ _ _ _ _ _ _)
         have HMc:Hid (Blk wT wo.heap.size 45 #[.string (str v.m.path),.string (str v.m.target),.int .u8 (v.m.kind.toNat:Int),.int .i64 v.m.mode,.int .i64 v.m.uid,.int .i64 v.m.gid,.int .i64 v.m.time,.slice v.p v.m.body.length v.c]):=Lib.hid (by rw [← hwT];exact other10p HM1.out (Nat.succ_ne_self _) _ _ _ _ _ _ _ _ _ _ _)
         have HBT:Hid (Below wo.heap.size wo wT):=Lib.hid (by rw [← hwT];exact below10p H01.out (Nat.le_succ _) _ _ _ _ _ _ _ _ _ _ _)
         have HVX:Hid (vC ⟨⟨nodeP u.x.m v.m.path,u.x.p,u.x.c⟩,u.k⟩=clsD (xs.map MP.m) (v.m.path,nn)):=Lib.hid (by
          unfold vC clsD;rw [HUM.out.2.1];show (nodeP u.x.m v.m.path,nn)=_;rw [HUM.out.1]
          rfl)
         have HBX:Hid (BodAt W (CP.x ⟨⟨nodeP u.x.m v.m.path,u.x.p,u.x.c⟩,u.k⟩)∧(CP.x ⟨⟨nodeP u.x.m v.m.path,u.x.p,u.x.c⟩,u.k⟩).m.body.length≤140737488351232):=Lib.hid ⟨⟨HUM.out.2.2.1.bat,HUM.out.2.2.1.le,HUM.out.2.2.1.mx⟩,HUM.out.2.2.2⟩;clear hwT d0 d1 d2 d3 d4 d5 d6 d7 d8 d9 g0 g1 g2 g3 g4 g5 g6 g7 g8 g9 r0 r1 r2 r3 r4 r5 r6 r7 r8 r9 m0 m1 m2;have HIT:=Lib.hid (hI.out.below HBT.out);have HCT:=Lib.hid (HCL.out.2.2.below HBT.out)
         go_wp2_with fail
         go_loopw [10,11] (fun o i wr2 => ∃ (j:Nat) (zs:List CP) (vo:Value),j≤ys.length∧vo=o∧i=.int .i64 (j:Int)∧Hid (FldI W wT wr2 (xs.map MP.m) ((S.take j).filter fun e => !(e.1 == v.m.path)) vo zs)) (fun _ i _ => ys.length - (RowKit.intOf i).toNat)
         case atStart => exact ⟨0,[],_,Nat.zero_le _,rfl,rfl,Lib.hid ⟨Below.refl _ _,World.ownsRow_nil _ _ _ _,rfl,fun y hy => (by cases hy)⟩⟩
         case round =>
          obtain ⟨j,zs,o,hj,rfl,rfl,hZ⟩:=hrel
          have HZL:Hid (zs.length≤1000):=Lib.hid (by
           have h1:=hZ.out.says.len;have h2:=List.length_filter_le (fun e:List UInt8 × Nat => !(e.1 == v.m.path)) (S.take j)
           have h3:(S.take j).length≤S.length:=by rw [List.length_take];omega
           have h4:=HSL.out.2
           omega)
          by_cases hlj:j < ys.length
          ·have hsl:j < S.length:=by have:=HSL.out.1;omega
           obtain ⟨b3,o3,he3,hb3,hB3,hc3⟩:=(HCT.out.below hZ.out.bel).cells10 hlj
           cases he3
           have hpj:=hI.out.says.path hsl;have hgj:=hI.out.says.get hsl;have hbj:=hI.out.bod _ (getC_mem ys j hlj);obtain ⟨z,hz⟩:∃ z,ys.getD j zeroC=z:=⟨_,rfl⟩;obtain ⟨e,he⟩:∃ e,S.getD j ([],0)=e:=⟨_,rfl⟩;have hT:=take_filter S v.m.path j hsl;rw [hz] at hc3 hpj hgj hbj;rw [he] at hpj hgj hT;have HZJ:=Lib.hid (And.intro hpj (And.intro hgj (And.intro hbj hT)));obtain ⟨d0,d1,d2,d3,d4,d5,d6,d7,d8,d9⟩:=hc3;have hm:=HMc.out.below hZ.out.bel HMc.out.lt;have m0:=hm.cell 0;simp only [List.getElem?_toArray,List.getElem?_cons_zero] at m0;have e1:=neqS z.x.m.path v.m.path
           have hjz:(j:Int) < (ys.length:Int):=by omega
           clear hpj hgj hbj hz he hT hm hb3 hB3 hsl
           by_cases hep:z.x.m.path=v.m.path
           ·rw [decide_eq_true hep] at e1
            have HN2:Hid (FldI W wT wr (xs.map MP.m) ((S.take (j+1)).filter fun e => !(e.1 == v.m.path)) o zs):=Lib.hid (by
             rw [HZJ.out.2.2.2,if_pos (by rw [← HZJ.out.1];exact hep),List.append_nil]
             exact hZ.out)
            clear hep
            go_upto_region 22 with fail
            go_quiet (fail)
            go_wp2
            go_roundw
            case rel => exact ⟨j+1,zs,_,by omega,rfl,by go_num,Lib.hid (HN2.out.below (below_drewN (Below.refl _ _) _))⟩
            case measure => simp [RowKit.intOf];omega
           ·rw [decide_eq_false hep] at e1
            have HEP:=Lib.hid hep;clear hep
            go_upto_region 22 with fail
            go_quiet (fail)
            clear m0 e1
            go_wp2_with (at_builtin;refine append_cls rfl _ _ rfl wT.heap.size o zs rfl (row_below hZ.out.row ((below_drewN (Below.refl _ _) _).alloc (Nat.le_refl _) _)) _ 1 z rfl (Blk.new _ _ _) (by have:=HZL.out;omega) (by have:=hZ.out.bel.size;first | omega | (simp;omega)) ?_)
            intro v5 w5 hrow hg hnw;rw [show zs.length+1=(zs++[z]).length by simp] at hrow
            have HZ5:=Lib.hid ((hZ.out.below ((below_drewN (Below.refl _ _) _).alloc (Nat.le_refl _) _)).add (e:=e) HZJ.out.2.1 HZJ.out.2.2.1 hrow hg)
            have HN2:Hid (FldI W wT w5 (xs.map MP.m) ((S.take (j+1)).filter fun e => !(e.1 == v.m.path)) v5 (zs++[z])):=Lib.hid (by
             rw [HZJ.out.2.2.2,if_neg (by rw [← HZJ.out.1];exact HEP.out)]
             exact HZ5.out)
            clear hrow hg hnw HZ5 d0 d1 d2 d3 d4 d5 d6 d7 d8 d9
            go_wp2
            go_roundw
            case rel => exact ⟨j+1,_,_,by omega,rfl,by go_num,HN2⟩
            case measure => simp [RowKit.intOf];omega
          ·have hjk:¬ ((j:Int) < (ys.length:Int)):=by omega
           have HZ2:Hid (FldI W wT wr (xs.map MP.m) (S.filter fun e => !(e.1 == v.m.path)) o zs):=Lib.hid (by
            have h:=hZ.out;rw [List.take_of_length_le (by have:=HSL.out.1;omega)] at h
            exact h)
           have hx:=HXc.out.below hZ.out.bel HXc.out.lt;have y0:=hx.cell 0;have y1:=hx.cell 1;have y2:=hx.cell 2;have y3:=hx.cell 3;have y4:=hx.cell 4;have y5:=hx.cell 5;have y6:=hx.cell 6;have y7:=hx.cell 7;have y8:=hx.cell 8;have y9:=hx.cell 9;simp only [List.getElem?_toArray,List.getElem?_cons_zero,List.getElem?_cons_succ] at y0 y1 y2 y3 y4 y5 y6 y7 y8 y9;clear hx
           go_wp2_with (at_builtin;refine append_cls rfl _ _ rfl wT.heap.size o zs rfl (row_below HZ2.out.row ((Below.refl _ _).alloc (Nat.le_refl _) _)) wr.heap.size 1 ⟨⟨nodeP u.x.m v.m.path,u.x.p,u.x.c⟩,u.k⟩ rfl (Blk.new wr _ _) (by have:=HZL.out;omega) (by have:=HZ2.out.bel.size;first | omega | (simp;omega)) ?_)
           intro v5 w5 hrow hg hnw;rw [show zs.length+1=(zs++[(⟨⟨nodeP u.x.m v.m.path,u.x.p,u.x.c⟩,u.k⟩:CP)]).length by simp] at hrow
           have HN:Hid (FldI W W w5 (xs.map MP.m) (putS S v.m.path nn) v5 (zs++[⟨⟨nodeP u.x.m v.m.path,u.x.p,u.x.c⟩,u.k⟩])):=Lib.hid (((HZ2.out.below ((Below.refl _ _).alloc (Nat.le_refl _) _)).add (e:=(v.m.path,nn)) HVX.out HBX.out hrow hg).next (hI.out.bel.trans (HBT.out.mono hI.out.bel.size)))
           have HS2:=Lib.hid (laysD_step hS.out HLY.out);clear hrow hg hnw y0 y1 y2 y3 y4 y5 y6 y7 y8 y9
           go_wp2
           go_roundw
           case rel => exact ⟨k+1,_,_,_,by omega,rfl,by go_num,HS2,HN⟩
           case measure => simp [RowKit.intOf];omega
        ·rw [decide_eq_false h48,Bool.not_false] at ek8
         have HNO:layD (xs.map MP.m) S k=none:=by
          rw [HLD.out,HLK.out]
          dsimp only
          rw [← HKU.out.1,if_neg h48]
         have E:=Lib.hid (foldD_link HBAD.out (i:=k) (by rw [HKN.out];exact laysD_stay (laysD_fall hS.out HNO) _))
         clear HNO;have hBX:=hI.out.bel.trans (H01.out.mono hI.out.bel.size);have HBX:=Lib.hid hBX;have hX4:=HX0.out.below hBX HX0.out.lt;have HX4:=Lib.hid hX4;have x0:=hX4.cell 0;have x1:=hX4.cell 1;have f0:=hX4.frozen 0;have f1:=hX4.frozen 1;simp only [List.getElem?_toArray,List.getElem?_cons_zero,List.getElem?_cons_succ] at x0 x1;clear hX4 hBX h48 m0 m1 m2
         go_wp2
         refine bodyPost_ret (ret_fold rfl _ _ w.heap.size _ rfl rfl 7 (k:Int) (blk_flt HX4.out _ _)) rfl ?_
         have hb:=HB0.out.trans (HBX.out.mono HB0.out.size);exact rfold_none E.out ((hb.setCell (p:=⟨w.heap.size,0,none⟩) (Nat.le_refl _) _).setCell (p:=⟨w.heap.size,1,none⟩) (Nat.le_refl _) _) rfl
     ·rw [decide_eq_false h49] at ek
      have HLY:Hid (layD (xs.map MP.m) S k=some (putS S v.m.path k)):=Lib.hid (by
       unfold layD
       dsimp only
       rw [HV.out.2.2.1,if_neg h49])
      clear h49 m1;have HXc:=HX1;have HMc:=HM1;have HBT:=H01
      have HVX:Hid (vC ⟨⟨nodeM v.m.path v.m [],v.p,v.c⟩,k⟩=clsD (xs.map MP.m) (v.m.path,k)):=Lib.hid (by
       unfold clsD;rw [HV.out.2.2.1]
       rfl)
      have HBX:Hid (BodAt W (CP.x ⟨⟨nodeM v.m.path v.m [],v.p,v.c⟩,k⟩)∧(CP.x ⟨⟨nodeM v.m.path v.m [],v.p,v.c⟩,k⟩).m.body.length≤140737488351232):=Lib.hid ⟨bod_of HV.out.2.2.2 _,(HF.out v HV.out.2.1).2.2⟩;have HIT:=Lib.hid (hI.out.below HBT.out);have HCT:=Lib.hid (HCL.out.2.2.below HBT.out)
      go_wp2_with fail
      go_loopw [10,11] (fun o i wr2 => ∃ (j:Nat) (zs:List CP) (vo:Value),j≤ys.length∧vo=o∧i=.int .i64 (j:Int)∧Hid (FldI W w1 wr2 (xs.map MP.m) ((S.take j).filter fun e => !(e.1 == v.m.path)) vo zs)) (fun _ i _ => ys.length - (RowKit.intOf i).toNat)
      case atStart => exact ⟨0,[],_,Nat.zero_le _,rfl,rfl,Lib.hid ⟨Below.refl _ _,World.ownsRow_nil _ _ _ _,rfl,fun y hy => (by cases hy)⟩⟩
      case round =>
       obtain ⟨j,zs,o,hj,rfl,rfl,hZ⟩:=hrel
       have HZL:Hid (zs.length≤1000):=Lib.hid (by
        have h1:=hZ.out.says.len;have h2:=List.length_filter_le (fun e:List UInt8 × Nat => !(e.1 == v.m.path)) (S.take j)
        have h3:(S.take j).length≤S.length:=by rw [List.length_take];omega
        have h4:=HSL.out.2
        omega)
       by_cases hlj:j < ys.length
       ·have hsl:j < S.length:=by have:=HSL.out.1;omega
        obtain ⟨b3,o3,he3,hb3,hB3,hc3⟩:=(HCT.out.below hZ.out.bel).cells10 hlj
        cases he3
        have hpj:=hI.out.says.path hsl;have hgj:=hI.out.says.get hsl;have hbj:=hI.out.bod _ (getC_mem ys j hlj);obtain ⟨z,hz⟩:∃ z,ys.getD j zeroC=z:=⟨_,rfl⟩;obtain ⟨e,he⟩:∃ e,S.getD j ([],0)=e:=⟨_,rfl⟩;have hT:=take_filter S v.m.path j hsl;rw [hz] at hc3 hpj hgj hbj;rw [he] at hpj hgj hT;have HZJ:=Lib.hid (And.intro hpj (And.intro hgj (And.intro hbj hT)));obtain ⟨d0,d1,d2,d3,d4,d5,d6,d7,d8,d9⟩:=hc3;have hm:=HMc.out.below hZ.out.bel HMc.out.lt;have m0:=hm.cell 0;simp only [List.getElem?_toArray,List.getElem?_cons_zero] at m0;have e1:=neqS z.x.m.path v.m.path
        have hjz:(j:Int) < (ys.length:Int):=by omega
        clear hpj hgj hbj hz he hT hm hb3 hB3 hsl
        by_cases hep:z.x.m.path=v.m.path
        ·rw [decide_eq_true hep] at e1
         have HN2:Hid (FldI W w1 wr (xs.map MP.m) ((S.take (j+1)).filter fun e => !(e.1 == v.m.path)) o zs):=Lib.hid (by
          rw [HZJ.out.2.2.2,if_pos (by rw [← HZJ.out.1];exact hep),List.append_nil]
          exact hZ.out)
         clear hep
         go_upto_region 22 with fail
         go_quiet (fail)
         go_wp2
         go_roundw
         case rel => exact ⟨j+1,zs,_,by omega,rfl,by go_num,Lib.hid (HN2.out.below (below_drewN (Below.refl _ _) _))⟩
         case measure => simp [RowKit.intOf];omega
        ·rw [decide_eq_false hep] at e1
         have HEP:=Lib.hid hep;clear hep
         go_upto_region 22 with fail
         go_quiet (fail)
         clear m0 e1
         go_wp2_with (at_builtin;refine append_cls rfl _ _ rfl w1.heap.size o zs rfl (row_below hZ.out.row ((below_drewN (Below.refl _ _) _).alloc (Nat.le_refl _) _)) _ 1 z rfl (Blk.new _ _ _) (by have:=HZL.out;omega) (by have:=hZ.out.bel.size;first | omega | (simp;omega)) ?_)
         intro v5 w5 hrow hg hnw;rw [show zs.length+1=(zs++[z]).length by simp] at hrow
         have HZ5:=Lib.hid ((hZ.out.below ((below_drewN (Below.refl _ _) _).alloc (Nat.le_refl _) _)).add (e:=e) HZJ.out.2.1 HZJ.out.2.2.1 hrow hg)
         have HN2:Hid (FldI W w1 w5 (xs.map MP.m) ((S.take (j+1)).filter fun e => !(e.1 == v.m.path)) v5 (zs++[z])):=Lib.hid (by
          rw [HZJ.out.2.2.2,if_neg (by rw [← HZJ.out.1];exact HEP.out)]
          exact HZ5.out)
         clear hrow hg hnw HZ5 d0 d1 d2 d3 d4 d5 d6 d7 d8 d9
         go_wp2
         go_roundw
         case rel => exact ⟨j+1,_,_,by omega,rfl,by go_num,HN2⟩
         case measure => simp [RowKit.intOf];omega
       ·have hjk:¬ ((j:Int) < (ys.length:Int)):=by omega
        have HZ2:Hid (FldI W w1 wr (xs.map MP.m) (S.filter fun e => !(e.1 == v.m.path)) o zs):=Lib.hid (by
         have h:=hZ.out;rw [List.take_of_length_le (by have:=HSL.out.1;omega)] at h
         exact h)
        have hx:=HXc.out.below hZ.out.bel HXc.out.lt;have y0:=hx.cell 0;have y1:=hx.cell 1;have y2:=hx.cell 2;have y3:=hx.cell 3;have y4:=hx.cell 4;have y5:=hx.cell 5;have y6:=hx.cell 6;have y7:=hx.cell 7;have y8:=hx.cell 8;have y9:=hx.cell 9;simp only [List.getElem?_toArray,List.getElem?_cons_zero,List.getElem?_cons_succ] at y0 y1 y2 y3 y4 y5 y6 y7 y8 y9;clear hx
        go_wp2_with (at_builtin;refine append_cls rfl _ _ rfl w1.heap.size o zs rfl (row_below HZ2.out.row ((Below.refl _ _).alloc (Nat.le_refl _) _)) wr.heap.size 1 ⟨⟨nodeM v.m.path v.m [],v.p,v.c⟩,k⟩ rfl (Blk.new wr _ _) (by have:=HZL.out;omega) (by have:=HZ2.out.bel.size;first | omega | (simp;omega)) ?_)
        intro v5 w5 hrow hg hnw;rw [show zs.length+1=(zs++[(⟨⟨nodeM v.m.path v.m [],v.p,v.c⟩,k⟩:CP)]).length by simp] at hrow
        have HN:Hid (FldI W W w5 (xs.map MP.m) (putS S v.m.path k) v5 (zs++[⟨⟨nodeM v.m.path v.m [],v.p,v.c⟩,k⟩])):=Lib.hid (((HZ2.out.below ((Below.refl _ _).alloc (Nat.le_refl _) _)).add (e:=(v.m.path,k)) HVX.out HBX.out hrow hg).next (hI.out.bel.trans (HBT.out.mono hI.out.bel.size)))
        have HS2:=Lib.hid (laysD_step hS.out HLY.out);clear hrow hg hnw y0 y1 y2 y3 y4 y5 y6 y7 y8 y9
        go_wp2
        go_roundw
        case rel => exact ⟨k+1,_,_,_,by omega,rfl,by go_num,HS2,HN⟩
        case measure => simp [RowKit.intOf];omega
    ·have hks:¬ ((k:Int) < (n:Int)):=by omega
     have hkn:k=n:=by omega
     have hln:(xs.map MP.m).length=n:=by rw [List.length_map,HL.out]
     have hS':laysD (xs.map MP.m) (xs.map MP.m).length=.ok S:=by rw [hln,← hkn];exact hS.out
     have E:=Lib.hid (foldD_ok HBAD.out hS');have HTL:Hid ((treeD (xs.map MP.m) S).length=ys.length):=Lib.hid (by rw [treeD_count,HSL.out.1])
     have HSR:=Lib.hid (rsorted_any ql ys.length cl ys (xs.map MP.m) S wo HCL.out.2.2 hI.out.says (laysD_apart _ _ _ hS.out) (by have:=HSL.out.1;have:=HSL.out.2;omega) (fun y hy => (hI.out.bod y hy).2))
     clear hkn hln hS'
     go_wp2_with fail
     refine HSR.out.mono ?_
     rintro e w3 ⟨q,d,zs,rfl,hz,hnod,hb3⟩;have HB3:=Lib.hid (hI.out.bel.trans (hb3.mono hI.out.bel.size));have hX3:=HX0.out.below HB3.out HX0.out.lt;have HX3:=Lib.hid hX3;have P:=Lib.hid (And.intro hz hnod);have x0:=hX3.cell 0;have x1:=hX3.cell 1;have f0:=hX3.frozen 0;have f1:=hX3.frozen 1;simp only [List.getElem?_toArray,List.getElem?_cons_zero,List.getElem?_cons_succ] at x0 x1;clear hz hnod hb3 hX3
     go_wp2
     refine bodyPost_ret (ret_fold rfl _ _ w.heap.size _ rfl rfl 0 0 (blk_flt HX3.out _ _)) rfl ?_
     have hb:=HB0.out.trans (HB3.out.mono HB0.out.size);refine ⟨q,d,zs,by rw [E.out];dsimp only;rw [HTL.out];rfl,by rw [E.out];exact P.out.1,?_,(hb.setCell (p:=⟨w.heap.size,0,none⟩) (Nat.le_refl _) _).setCell (p:=⟨w.heap.size,1,none⟩) (Nat.le_refl _) _⟩
     rw [E.out]
     dsimp only
     rw [HTL.out];exact nodes_off HX3.out P.out.2 (((Kept.refl (oneB w.heap.size) w3).setCell (a:=⟨w.heap.size,0,none⟩) (.inr rfl) _).setCell (a:=⟨w.heap.size,1,none⟩) (.inr rfl) _)
end Go.Proofs.YthaoohbdjlbaeaaDoor.Tre
end
