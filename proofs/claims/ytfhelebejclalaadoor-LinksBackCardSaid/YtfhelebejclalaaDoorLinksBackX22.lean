/- Texts of this seat, merged: what the proof reaches. -/
import Derived.Test.YtfhelebejclalaaDoorLinksBackX6
import Derived.Test.YtfhelebejclalaaDoorLinksBackX19
import Derived.Deep.DeepCutAuto
import Derived.Carry
import Derived.StillTailTactics
import Derived.Laws.ResultCell
import Derived.Test.YtfhelebejclalaaDoorLinksBackX20
import Derived.Test.YtfhelebejclalaaDoorLinksBackX16
import Derived.Laws.StructEq
import Derived.BigQuiet
namespace Go.Proofs.YtfhelebejclalaaDoor
namespace Base
end Base
namespace Bk
end Bk
namespace Block
end Block
namespace Byt
end Byt
namespace Mem
end Mem
namespace Mk
end Mk
namespace Mp
end Mp
namespace Rec
end Rec
namespace Tre
end Tre
namespace Txt
end Txt
end Go.Proofs.YtfhelebejclalaaDoor
section
namespace Go.Proofs.YtfhelebejclalaaDoor.Tre
open Go.ChangeShapes Go.WideShapes Go.ChangeAt Go.RowKit Base Byt Txt Bk Mk Mem Go.Lib
set_option linter.unusedVariables false
set_option maxRecDepth 100000
theorem kind_ne1 (k:UInt8) (n:UInt8) (z:Int) (hz:(n.toNat:Int)=z):(((k.toNat:Int)) == z)=decide (k=n):=by
 subst hz
 by_cases h:k=n
 ·simp [h]
 ·have:¬ k.toNat=n.toNat:=fun hh => h (UInt8.toNat.inj hh)
  simp only [h,decide_false,beq_eq_false_iff_ne,ne_eq];omega
theorem kind_nq1 (k:UInt8) (n:UInt8) (z:Int) (hz:(n.toNat:Int)=z):(((k.toNat:Int)) != z)=!decide (k=n):=by
 rw [← kind_ne1 k n z hz];rfl
def numsK (f:List UInt8 → Option Nat):List UInt8 → Option Value:=fun x => (f x).map fun n => .int .i64 (n:Int)
structure LayAt (W:World) (g B:Nat) (p:Option Addr) (n c:Nat) (f:List UInt8 → Option Nat):Prop where
 obj:Blk W g 78 #[.slice p n c,.map (some B)]
 map:MapK strK W B (numsK f)
theorem blk_not_map {W:World} {g B:Nat} {t:TypeId} {cs:Array Value} {α:Type} {K:Keying α} {f:α → Option Value} (h:Blk W g t cs) (hm:MapK K W B f):g≠B:=fun e => by
 obtain ⟨es,clock,hb,_⟩:=hm;subst e;have h':W.heap[g]? = some (.cells cs t (0,0)):=h;rw [h'] at hb
 cases hb
theorem LayAt.below {W W':World} {g B:Nat} {p:Option Addr} {n c:Nat} {f:List UInt8 → Option Nat} (h:LayAt W g B p n c f) (hb:Below W.heap.size W W'):LayAt W' g B p n c f:=
 ⟨h.obj.below hb h.obj.lt,h.map.kept (Kept.of_below hb noneB) (fun h => h.elim)⟩
def NewLayPost (w:World) (p:Option Addr) (n c:Nat) (e:Ending) (w':World):Prop:=
 ∃ g B,e=.returned (.pointer (some ⟨g,0,none⟩))∧LayAt w' g B p n c (fun _ => none)∧w.heap.size≤g∧w.heap.size≤B∧Below w.heap.size w w'
set_option maxHeartbeats 1000000 in
theorem newLay_any (p:Option Addr) (n c:Nat) (w:World) :
 Calls Tryd.prog 32 #[.slice p n c] w (NewLayPost w p n c):=by
 have hmm:=@run_makeMap Tryd.prog
 go_enter Tryd.func32,Tryd.ntmps32
 go_wp2
 go_ret
 have hM:=(mapK_made strK w)
 have hb:Blk ((w.alloc (.map #[] 0)).alloc (.cells #[.slice p n c,.map (some w.heap.size)] 78)) (w.heap.size+1) 78 #[.slice p n c,.map (some w.heap.size)]:=by
  have:=Blk.new (w.alloc (.map #[] 0)) 78 #[.slice p n c,.map (some w.heap.size)]
  rwa [World.size_alloc] at this
 refine ⟨w.heap.size+1,w.heap.size,rfl,⟨hb,?_⟩,by omega,Nat.le_refl _,((Below.refl _ _).alloc (Nat.le_refl _) _).alloc (by simp) _⟩
 exact hM.kept ((Kept.refl noneB _).alloc _) (fun h => h.elim)
theorem find_filter {α:Type} (q r:α → Bool) (h:∀ x,r x=true → q x=true) (l:List α):(l.filter q).find? r=l.find? r:=by
 induction l with
 | nil => rfl
 | cons a l ih =>
   rw [List.filter_cons]
   by_cases hq:q a=true
   ·rw [if_pos hq,List.find?_cons,List.find?_cons,ih]
   ·rw [if_neg hq,List.find?_cons,ih]
    have:r a=false:=by
     cases hr:r a with
     | false => rfl
     | true => exact absurd (h a hr) hq
    rw [this]
theorem look_put (S:St) (p x:List UInt8) (n:Nat):look (putS S p n) x=if x=p then some n else look S x:=by
 unfold look putS;rw [List.find?_append]
 by_cases h:x=p
 ·subst h
  rw [if_pos rfl]
  have:(S.filter fun e => !(e.1 == x)).find? (fun e => e.1 == x)=none:=by
   rw [List.find?_eq_none];intro e he;rw [List.mem_filter] at he
   simpa using he.2
  rw [this];simp
 ·rw [if_neg h,find_filter _ _ (fun e he => by
   have:e.1=x:=by simpa using he
   simpa [this] using h)]
  have e1:([(p,n)]:St).find? (fun e => e.1 == x)=none:=by
   have:(p == x)=false:=by simpa using fun e:p=x => h e.symm
   simp [this]
  rw [e1,Option.or_none]
def InS (S:St) (N:Nat):Prop:=∀ e ∈ S,e.2 < N
theorem InS.look {S:St} {N:Nat} (h:InS S N) {x:List UInt8} {n:Nat} (hl:look S x=some n):n < N:=by
 unfold Tre.look at hl;rw [Option.map_eq_some_iff] at hl;obtain ⟨e,he,rfl⟩:=hl;exact h e (List.mem_of_find?_eq_some he)
theorem InS.put {S:St} {N:Nat} (h:InS S N) {p:List UInt8} {n:Nat} (hn:n < N):InS (putS S p n) N:=fun e he => by
 unfold putS at he;rw [List.mem_append,List.mem_filter] at he;rcases he with he | he
 ·exact h e he.1
 ·rw [List.mem_singleton.1 he];exact hn
theorem layD_in {ms:List MemV} {S S':St} {i:Nat} (h:layD ms S i=some S') (hS:InS S ms.length) (hi:i < ms.length):InS S' ms.length:=by
 unfold layD at h
 dsimp only at h
 split at h
 ·split at h
  ·cases h
  ·next n hn =>
   split at h
   ·cases h;exact hS.put (hS.look hn)
   ·cases h
 ·cases h;exact hS.put hi
def LayPost (W:World) (ms:List MemV) (S:St) (i g B:Nat) (p:Option Addr) (n c:Nat) (e:Ending) (w':World):Prop:=
 e=.returned (.bool (layD ms S i).isSome)∧LayAt w' g B p n c (look ((layD ms S i).getD S))∧Kept (oneB B) W w'
theorem numsK_put (S:St) (x:List UInt8) (n:Nat):numsK (look (putS S x n))=fun y => if y=x then some (.int .i64 (n:Int)) else numsK (look S) y:=by
 funext y
 unfold numsK;rw [look_put]
 by_cases h:y=x<;>simp [h]
set_option maxHeartbeats 4000000 in
theorem lay_any (w:World) (g B:Nat) (p:Option Addr) (n c:Nat) (xs:List MP) (S:St) (i:Nat) (W:World) (hM:MemsAt w p n xs) (hb:Below w.heap.size w W) (hB:w.heap.size≤B) (hn:n≤1000000000) (hi:i < n) (hS:InS S n) (hL:LayAt W g B p n c (look S)) :
 Calls Tryd.prog 33 #[.pointer (some ⟨g,0,none⟩),.int .i64 (i:Int)] W (LayPost W (xs.map MP.m) S i g B p n c):=by
 have HL:=Lib.hid hM.1;have hgB:=blk_not_map hL.obj hL.map;have hM1:=hM.below hb;obtain ⟨b1,o1,rfl,hb1,hB1,hc1⟩:=hM1.cells8 hi;have hG0:=getM_map xs i;obtain ⟨y,hy⟩:∃ y,xs.getD i zeroP=y:=⟨_,rfl⟩;rw [hy] at hB1 hc1 hG0;obtain ⟨W1,hW1⟩:∃ W1,W.alloc (.cells y.cs 50)=W1:=⟨_,rfl⟩;have hBW:Below W.heap.size W W1:=by rw [← hW1];exact (Below.refl _ _).alloc (Nat.le_refl _) _
 have hY:Blk W1 W.heap.size 50 y.cs:=by rw [← hW1];exact Blk.new W _ _
 have hL1:=hL.below hBW;have HLA:=Lib.hid hL;have HL1:=Lib.hid hL1;have HGB:=Lib.hid hgB;have HBW:=Lib.hid hBW;have HM1:=Lib.hid (hM1.below hBW);have HS:=Lib.hid hS;have HY:=Lib.hid hY;have HLT:=Lib.hid (And.intro hL.obj.lt hL.map.lt);have k0:=hL.obj.cell 0;have g0:=hL1.obj.cell 0;have g1:=hL1.obj.cell 1;have y0:=hY.cell 0;have y1:=hY.cell 1;have y2:=hY.cell 2;simp only [MP.cs,memC,List.getElem?_toArray,List.getElem?_cons_zero,List.getElem?_cons_succ] at k0 g0 g1 y0 y1 y2;have ek:=kind_ne1 y.m.kind 49 49 rfl;obtain ⟨kn,hkn⟩:∃ k:Int,(y.m.kind.toNat:Int)=k:=⟨_,rfl⟩
 obtain ⟨c0,c1,c2,c3,c4,c5,c6,c7⟩:=hc1;unfold MP.cs memC at hW1;rw [hkn] at hW1 y2 c2 ek;have HG0:=Lib.hid hG0;have hiz:(i:Int) < (n:Int):=by omega
 have hi0:(0:Int)≤(i:Int):=by omega
 clear hM hb hM1 hb1 hB1 hy hBW hY hL hL1 hgB hS hkn hG0
 go_enter Tryd.func33,Tryd.ntmps33
 go_upto_region 2 with fail
 clear c0 c1 c2 c3 c4 c5 c6 c7 hW1
 by_cases h49:y.m.kind=49
 ·rw [decide_eq_true h49] at ek
  have hlk:=HL1.out.map.look_ok (P:=Tryd.prog) Tryd.underlying57 Tryd.underlying9 (z:=.int .i64 0) (fun w => Tryd.zeroValue3 w) y.m.target
  have HLK:Hid (∀ q:Since W1,(Instr.lookup 57 (.map (some B)) (.string (str y.m.target)) true).run Tryd.prog q.w'=.ok (.tuple #[(numsK (look S) y.m.target).getD (.int .i64 0),.bool (numsK (look S) y.m.target).isSome]) q.w'):=Lib.hid (fun q =>
   (HL1.out.map.kept (Kept.of_below q.bel noneB) (fun h => h.elim)).look_ok (P:=Tryd.prog) Tryd.underlying57 Tryd.underlying9 (z:=.int .i64 0) (fun w => Tryd.zeroValue3 w) y.m.target)
  clear hlk;obtain ⟨fo,hfo⟩:∃ fo,look S y.m.target=fo:=⟨_,rfl⟩;have HFO:=Lib.hid hfo;unfold numsK at HLK;rw [hfo] at HLK;have H49:=Lib.hid h49;clear hfo h49
  cases fo with
  | none =>
    have E:Hid (layD (xs.map MP.m) S i=none):=Lib.hid (by
     unfold layD;rw [HG0.out]
     dsimp only
     rw [if_pos H49.out,HFO.out])
    have lk:∀ m,(Instr.lookup 57 (.map (some B)) (.string (str y.m.target)) true).run Tryd.prog (W1.drewN m)=.ok (.tuple #[.int .i64 0,.bool false]) (W1.drewN m):=fun m => HLK.out ⟨W1.drewN m,below_drewN (Below.refl _ _) m⟩
    go_wp2_with fail
    go_quiet (fail)
    go_wp2
    go_ret
    exact ⟨by rw [E.out];rfl,by rw [E.out];exact HL1.out.below (below_drewN (Below.refl _ _) _),(Kept.of_below HBW.out (oneB B)).drewN _⟩
  | some n0 =>
    have hn0:n0 < n:=HS.out.look HFO.out;obtain ⟨b2,o2,hp2,hb2,hB2,hc2⟩:=HM1.out.cells8 hn0;simp only [Option.some.injEq,Addr.mk.injEq,and_true] at hp2;obtain ⟨rfl,rfl⟩:=hp2;have hG2:=getM_map xs n0;obtain ⟨v,hv⟩:∃ v,xs.getD n0 zeroP=v:=⟨_,rfl⟩;rw [hv] at hc2 hG2;have z2:=hc2.2.2.1;have eq8:∀ m,(W1.drewN m).cell? ⟨b1,o1+n0 * 8+2,none⟩=some (.int .u8 (v.m.kind.toNat:Int)):=fun m => z2
    have ev:=kind_nq1 v.m.kind 48 48 rfl;obtain ⟨kv,hkv⟩:∃ k:Int,(v.m.kind.toNat:Int)=k:=⟨_,rfl⟩;rw [hkv] at ev z2 eq8;have HG2:=Lib.hid hG2;have lk:∀ m,(Instr.lookup 57 (.map (some B)) (.string (str y.m.target)) true).run Tryd.prog (W1.drewN m)=.ok (.tuple #[.int .i64 (n0:Int),.bool true]) (W1.drewN m):=fun m => HLK.out ⟨W1.drewN m,below_drewN (Below.refl _ _) m⟩
    have hn0z:(n0:Int) < (n:Int):=by omega
    have hn00:(0:Int)≤(n0:Int):=by omega
    clear hb2 hB2 hc2 hv hkv hG2
    by_cases h48:v.m.kind=48
    ·rw [decide_eq_true h48,Bool.not_true] at ev
     have E:Hid (layD (xs.map MP.m) S i=some (putS S y.m.path n0)):=Lib.hid (by
      unfold layD;rw [HG0.out]
      dsimp only
      rw [if_pos H49.out,HFO.out]
      dsimp only
      rw [HG2.out,if_pos h48])
     clear h48
     go_wp2_with fail
     go_quiet (fail)
     obtain ⟨W2,hW2⟩:∃ W2,W1.drewN nq=W2:=⟨_,rfl⟩;have hL2:=HL1.out.below (below_drewN (Below.refl W1.heap.size W1) nq);have hB2:=HBW.out.trans ((below_drewN (Below.refl W1.heap.size W1) nq).mono HBW.out.size);have hY2:=HY.out.drewN nq;have z2':=eq8 nq;rw [hW2] at hL2 hB2 hY2 z2' ⊢;clear hW2 lk eq8 z2 g0 g1 y0 y1 y2;have g0:=hL2.obj.cell 0;have g1:=hL2.obj.cell 1;have y0:=hY2.cell 0;simp only [MP.cs,memC,List.getElem?_toArray,List.getElem?_cons_zero,List.getElem?_cons_succ] at g0 g1 y0;have HL2:=Lib.hid hL2;have HBW2:=Lib.hid hB2;clear hL2 hB2 hY2
     go_wp2_with fail
     go_still_tail 7,(by kernel_rfl)
     refine wpList_putK (K:=strK) rfl (.tmp 45) (.tmp 47) (.tmp 48) rfl Tryd.underlying57 Tryd.underlying9 B (HL2.out.map.kept (Kept.refl noneB W2).drew id) rfl y.m.path rfl (.int .i64 (n0:Int)) rfl ?_
     intro w5 hm5 hk5 hs5
     have F:Hid (LayAt w5 g B (some ⟨b1,o1,none⟩) n c (look (putS S y.m.path n0))∧Kept (oneB B) W w5):=by
      have hk':Kept (oneB B) W2 w5:=((Kept.refl (oneB B) W2).drew).trans hk5.out;refine Lib.hid ⟨⟨HL2.out.obj.keptS hk' HGB.out,?_⟩,(Kept.of_below HBW2.out (oneB B)).trans hk'⟩;rw [numsK_put];exact hm5.out
     clear hm5 hk5 hs5
     go_wp2
     go_ret
     exact ⟨by rw [E.out];rfl,by rw [E.out];exact F.out.1,F.out.2⟩
    ·rw [decide_eq_false h48,Bool.not_false] at ev
     have E:Hid (layD (xs.map MP.m) S i=none):=Lib.hid (by
      unfold layD;rw [HG0.out]
      dsimp only
      rw [if_pos H49.out,HFO.out]
      dsimp only
      rw [HG2.out,if_neg h48])
     clear h48
     go_wp2_with fail
     go_quiet (fail)
     go_wp2
     go_ret
     exact ⟨by rw [E.out];rfl,by rw [E.out];exact HL1.out.below (below_drewN (Below.refl _ _) _),(Kept.of_below HBW.out (oneB B)).drewN _⟩
 ·rw [decide_eq_false h49] at ek
  have E:Hid (layD (xs.map MP.m) S i=some (putS S y.m.path i)):=Lib.hid (by
   unfold layD;rw [HG0.out]
   dsimp only
   rw [if_neg h49])
  clear h49
  go_wp2_with fail
  go_still_tail 7,(by kernel_rfl)
  refine wpList_putK (K:=strK) rfl (.tmp 45) (.tmp 47) (.tmp 48) rfl Tryd.underlying57 Tryd.underlying9 B (HL1.out.map.kept (Kept.refl noneB W1).drew id) rfl y.m.path rfl (.int .i64 (i:Int)) rfl ?_
  intro w5 hm5 hk5 hs5
  have F:Hid (LayAt w5 g B (some ⟨b1,o1,none⟩) n c (look (putS S y.m.path i))∧Kept (oneB B) W w5):=by
   have hk':Kept (oneB B) W1 w5:=((Kept.refl (oneB B) W1).drew).trans hk5.out;refine Lib.hid ⟨⟨HL1.out.obj.keptS hk' HGB.out,?_⟩,(Kept.of_below HBW.out (oneB B)).trans hk'⟩;rw [numsK_put];exact hm5.out
  clear hm5 hk5 hs5
  go_wp2
  go_ret
  exact ⟨by rw [E.out];rfl,by rw [E.out];exact F.out.1,F.out.2⟩
end Go.Proofs.YtfhelebejclalaaDoor.Tre
end
section
namespace Go.Proofs.YtfhelebejclalaaDoor.Tre
open Mem
set_option linter.unusedVariables false
def Apart (S:St):Prop:=(S.map (·.1)).Nodup
theorem Apart.put {S:St} (h:Apart S) (p:List UInt8) (n:Nat):Apart (putS S p n):=by
 unfold Apart putS at *;rw [List.map_append,List.nodup_append];refine ⟨(List.Sublist.nodup (List.Sublist.map _ (List.filter_sublist)) h),by simp,?_⟩
 intro a ha b hb;simp only [List.map_cons,List.map_nil,List.mem_singleton] at hb;subst hb;rw [List.mem_map] at ha;obtain ⟨e,he,rfl⟩:=ha;rw [List.mem_filter] at he
 simpa using he.2
theorem look_mem {S:St} (h:Apart S) {e:List UInt8 × Nat} (he:e ∈ S):look S e.1=some e.2:=by
 unfold look Apart at *
 induction S with
 | nil => cases he
 | cons a S ih =>
   rw [List.map_cons,List.nodup_cons] at h;rw [List.find?_cons]
   by_cases ha:a.1=e.1
   ·have:(a.1 == e.1)=true:=by simpa using ha
    rw [this];rcases List.mem_cons.1 he with rfl | he'
    ·rfl
    ·exact absurd (List.mem_map.2 ⟨e,he',ha.symm⟩) h.1
   ·have:(a.1 == e.1)=false:=by simpa using ha
    rw [this];rcases List.mem_cons.1 he with rfl | he'
    ·exact absurd rfl ha
    ·exact ih h.2 he'
theorem look_isSome {S:St} (x:List UInt8):(look S x).isSome=true ↔ x ∈ S.map (·.1):=by
 unfold look;rw [Option.isSome_map,List.find?_isSome,List.mem_map];constructor
 ·rintro ⟨e,he,h⟩;exact ⟨e,he,by simpa using h⟩
 ·rintro ⟨e,he,h⟩;exact ⟨e,he,by simpa using h⟩
theorem layD_apart {ms:List MemV} {S S':St} {i:Nat} (h:layD ms S i=some S') (hS:Apart S):Apart S':=by
 unfold layD at h
 dsimp only at h
 split at h
 ·split at h
  ·cases h
  ·split at h
   ·cases h;exact hS.put _ _
   ·cases h
 ·cases h;exact hS.put _ _
theorem laysD_apart (ms:List MemV):∀ k S,laysD ms k=.ok S → Apart S
 | 0,S,h => by cases h;exact List.nodup_nil
 | k+1,S,h => by
   unfold laysD at h
   split at h
   ·cases h
   ·next S0 h0 =>
    split at h
    ·cases h
    ·next S1 h1 => cases h;exact layD_apart h1 (laysD_apart ms k S0 h0)
theorem laysD_in (ms:List MemV):∀ k S,k≤ms.length → laysD ms k=.ok S → InS S ms.length
 | 0,S,_,h => by cases h;intro e he;cases he
 | k+1,S,hk,h => by
   unfold laysD at h
   split at h
   ·cases h
   ·next S0 h0 =>
    split at h
    ·cases h
    ·next S1 h1 => cases h;exact layD_in h1 (laysD_in ms k S0 (by omega) h0) (by omega)
def RiseS (T:St):Prop:=T.Pairwise fun a b => ltB a.1 b.1=true
theorem leS_trans (a b c:List UInt8 × Nat) (h1:leS a b=true) (h2:leS b c=true):leS a c=true:=by
 unfold leS at *;simp only [Bool.not_eq_true'] at *
 cases h:ltB c.1 a.1 with
 | false => rfl
 | true => rw [ltB_le_trans (a:=b.1) (b:=c.1) (c:=a.1) h2 h] at h1;cases h1
theorem leS_total (a b:List UInt8 × Nat):(leS a b || leS b a)=true:=by
 unfold leS
 cases h:ltB b.1 a.1 with
 | false => simp
 | true => rw [ltB_asym h];simp
theorem sortS_perm (S:St):(sortS S).Perm S:=List.mergeSort_perm S leS
theorem sortS_rise {S:St} (h:Apart S):RiseS (sortS S):=by
 have h1:=List.pairwise_mergeSort leS_trans leS_total S;have h2:((sortS S).map (·.1)).Nodup:=((sortS_perm S).map _).nodup_iff.2 h
 have h3:(sortS S).Pairwise fun a b => a.1≠b.1:=(List.pairwise_map (f:=fun e:List UInt8 × Nat => e.1)).1 h2
 refine ((show (sortS S).Pairwise (fun a b => leS a b=true) from h1).and h3).imp fun ⟨h4,h5⟩ => ?_
 unfold leS at h4;exact ltB_of_not (by simpa using h4) (fun e => h5 e.symm)
theorem sortS_only {S T:St} (h:Apart S) (hp:T.Perm S) (hr:RiseS T):T=sortS S:=by
 have hr1:T.Pairwise fun (a b:List UInt8 × Nat) => ltB a.1 b.1=true:=hr
 have hr2:(sortS S).Pairwise fun (a b:List UInt8 × Nat) => ltB a.1 b.1=true:=sortS_rise h
 refine List.Perm.eq_of_pairwise (fun a b _ _ (h1:ltB a.1 b.1=true) (h2:ltB b.1 a.1=true) => ?_) hr1 hr2 (hp.trans (sortS_perm S).symm)
 rw [ltB_asym h1] at h2;cases h2
theorem keys_sort {S:St} (h:Apart S) {ts:List (List UInt8)} (hp:ts.Perm (S.map (·.1))) (hr:ts.Pairwise fun a b => ltB a b=true):sortS S=ts.map fun x => (x,(look S x).getD 0):=by
 symm
 refine sortS_only h ?_ ?_
 ·have:=hp.map fun x => (x,(look S x).getD 0)
  refine this.trans (List.Perm.of_eq ?_);rw [List.map_map]
  conv => rhs;rw [← List.map_id S]
  refine List.map_congr_left fun e he => ?_
  simp only [Function.comp,look_mem h he,Option.getD_some,id]
 ·unfold RiseS
  rw [List.pairwise_map];exact hr
theorem leadD_self {T:St} {k:Nat} (hk:k < T.length) (h:∀ j,j < k → (T.getD j ([],0)).2≠(T.getD k ([],0)).2):leadD T (T.getD k ([],0)).2=(T.getD k ([],0)).1:=by
 unfold leadD;have hg:T.getD k ([],0)=T[k]:=by rw [List.getD,List.getElem?_eq_getElem hk];rfl
 rw [hg] at h ⊢
 have:T.find? (fun e => e.2 == T[k].2)=some T[k]:=by
  rw [List.find?_eq_some_iff_getElem];refine ⟨by simp,k,hk,rfl,fun j hj => ?_⟩
  have:=h j hj;rw [List.getD,List.getElem?_eq_getElem (show j < T.length by omega)] at this
  simpa using this
 rw [this];rfl
def firstAt (T:St) (n:Nat):Option Nat:=T.findIdx? fun e => e.2 == n
theorem leadD_first {T:St} {n f:Nat} (h:firstAt T n=some f):leadD T n=(T.getD f ([],0)).1:=by
 unfold firstAt at h;rw [List.findIdx?_eq_some_iff_getElem] at h;obtain ⟨hf,h1,h2⟩:=h;unfold leadD
 have:T.find? (fun e => e.2 == n)=some T[f]:=by
  rw [List.find?_eq_some_iff_getElem];exact ⟨h1,f,hf,rfl,fun j hj => by simpa using h2 j hj⟩
 rw [this,List.getD,List.getElem?_eq_getElem hf];rfl
theorem firstAt_succ (T:St) (k n:Nat) (hk:k < T.length):firstAt (T.take (k+1)) n=(firstAt (T.take k) n).or (if (T.getD k ([],0)).2=n then some k else none):=by
 unfold firstAt;rw [List.take_succ_eq_append_getElem hk,List.findIdx?_append]
 congr 1
 have hg:T.getD k ([],0)=T[k]:=by rw [List.getD,List.getElem?_eq_getElem hk];rfl
 rw [hg]
 by_cases h:T[k].2=n
 ·simp [h,List.findIdx?_cons]
  omega
 ·have:(T[k].2 == n)=false:=by simpa using h
  simp [h,List.findIdx?_cons,this]
theorem firstAt_more {T:St} {k n f:Nat} (h:firstAt (T.take k) n=some f):firstAt T n=some f:=by
 unfold firstAt at *
 conv => lhs;rw [← List.take_append_drop k T,List.findIdx?_append,h]
 rfl
def leads (ms:List MemV) (T:St) (k n:Nat):Option Nat:=if (ms.getD n zeroMv).kind=48 then firstAt (T.take k) n else none
theorem leads_zero (ms:List MemV) (T:St) (n:Nat):leads ms T 0 n=none:=by
 unfold leads
 split<;>rfl
theorem leads_other {ms:List MemV} {T:St} {k:Nat} (hk:k < T.length) (h:(ms.getD (T.getD k ([],0)).2 zeroMv).kind≠48):leads ms T (k+1)=leads ms T k:=by
 funext n
 unfold leads
 split
 ·next hn =>
  rw [firstAt_succ T k n hk,if_neg (fun e => h (by rw [e];exact hn)),Option.or_none]
 ·rfl
theorem leads_old {ms:List MemV} {T:St} {k f:Nat} (hk:k < T.length) (h:leads ms T k (T.getD k ([],0)).2=some f):leads ms T (k+1)=leads ms T k:=by
 funext n
 unfold leads at *
 split
 ·next hn =>
  rw [firstAt_succ T k n hk]
  by_cases e:(T.getD k ([],0)).2=n
  ·rw [e,if_pos hn] at h
   rw [h];rfl
  ·rw [if_neg e,Option.or_none]
 ·rfl
theorem leads_new {ms:List MemV} {T:St} {k:Nat} (hk:k < T.length) (hf:(ms.getD (T.getD k ([],0)).2 zeroMv).kind=48) (h:leads ms T k (T.getD k ([],0)).2=none):leads ms T (k+1)=fun n => if n=(T.getD k ([],0)).2 then some k else leads ms T k n:=by
 funext n
 unfold leads at *;rw [if_pos hf] at h
 by_cases e:n=(T.getD k ([],0)).2
 ·rw [if_pos e,e,if_pos hf,firstAt_succ T k _ hk,h,if_pos rfl];rfl
 ·rw [if_neg e]
  split
  ·rw [firstAt_succ T k n hk,if_neg (fun h => e h.symm),Option.or_none]
  ·rfl
theorem leads_lead {ms:List MemV} {T:St} {k:Nat} (hk:k < T.length) (hf:(ms.getD (T.getD k ([],0)).2 zeroMv).kind=48):leadD T (T.getD k ([],0)).2=(T.getD ((leads ms T k (T.getD k ([],0)).2).getD k) ([],0)).1:=by
 have h1:firstAt (T.take (k+1)) (T.getD k ([],0)).2=some ((leads ms T k (T.getD k ([],0)).2).getD k):=by
  rw [firstAt_succ T k _ hk,if_pos rfl];unfold leads;rw [if_pos hf]
  cases firstAt (T.take k) (T.getD k ([],0)).2<;>rfl
 exact leadD_first (firstAt_more h1)
theorem leads_lt {ms:List MemV} {T:St} {k n f:Nat} (h:leads ms T k n=some f):f < k∧f < T.length:=by
 unfold leads at h
 split at h
 ·unfold firstAt at h
  rw [List.findIdx?_eq_some_iff_getElem] at h;obtain ⟨h1,_⟩:=h;rw [List.length_take] at h1;omega
 ·cases h
end Go.Proofs.YtfhelebejclalaaDoor.Tre
end
section
namespace Go.Proofs.YtfhelebejclalaaDoor.Tre
open Go.ChangeShapes Go.WideShapes Go.ChangeAt Go.RowKit Base Byt Txt Bk Mk Mem Go.Lib
set_option linter.unusedVariables false
set_option maxRecDepth 100000
theorem ret_fold {fn:Func} (hf:fn.results=#[.tmp 2,.cell 3 38]) (tmps:Array Value) (w:World) (g:Nat) (v:Value) (ht:tmps.getD 3 undef=.pointer (some ⟨g,0,none⟩)) (hv:tmps.getD 2 undef=v)
 (a b:Int) (hb:Blk w g 38 #[.int .i64 a,.int .i64 b]):(results fn tmps).run Tryd.prog w=.ok (.tuple #[v,.agg #[.int .i64 a,.int .i64 b]]) w:=by
 have c0:=hb.cell 0;have c1:=hb.cell 1;simp only [List.getElem?_toArray,List.getElem?_cons_zero,List.getElem?_cons_succ] at c0 c1;clear hb;have hl:(loadVar 38 ⟨g,0,none⟩).run Tryd.prog w=.ok (.agg #[.int .i64 a,.int .i64 b]) w:=by go_simp
 have ht':tmps[3]?.getD undef=.pointer (some ⟨g,0,none⟩):=by simpa using ht
 have hv':tmps[2]?.getD undef=v:=by simpa using hv
 simp only [results,hf];simp [Result.andThen,ht',hv',asAddr,hl]
theorem blk_flt {w:World} {g:Nat} {x y:Value} (h:Blk w g 38 #[x,y]) (a b:Value):Blk ((w.setCell ⟨g,0,none⟩ a).setCell ⟨g,1,none⟩ b) g 38 #[a,b]:=
 (h.set 0 a (by show 0 < 2;decide)).set 1 b (by show 1 < 2;decide)
theorem putS_len (S:St) (p:List UInt8) (n:Nat):(putS S p n).length≤S.length+1:=by
 unfold putS;rw [List.length_append];have:=List.length_filter_le (fun e:List UInt8 × Nat => !(e.1 == p)) S
 simpa using this
structure OkS (ms:List MemV) (S:St) (k:Nat):Prop where
 len:S.length≤k
 from_:∀ e ∈ S,∃ j,j < k∧e.1=(ms.getD j zeroMv).path
theorem OkS.put {ms:List MemV} {S:St} {k:Nat} (h:OkS ms S k) (n:Nat):OkS ms (putS S (ms.getD k zeroMv).path n) (k+1):=by
 refine ⟨Nat.le_trans (putS_len _ _ _) (Nat.succ_le_succ h.len),fun e he => ?_⟩
 unfold putS at he;rw [List.mem_append,List.mem_filter] at he;rcases he with he | he
 ·obtain ⟨j,hj,e2⟩:=h.from_ e he.1
  exact ⟨j,by omega,e2⟩
 ·rw [List.mem_singleton.1 he]
  exact ⟨k,by omega,rfl⟩
theorem OkS.lay {ms:List MemV} {S S':St} {k:Nat} (h:OkS ms S k) (hl:layD ms S k=some S'):OkS ms S' (k+1):=by
 unfold layD at hl
 dsimp only at hl
 split at hl
 ·split at hl
  ·cases hl
  ·split at hl
   ·cases hl;exact h.put _
   ·cases hl
 ·cases hl;exact h.put _
theorem laysD_ok (ms:List MemV):∀ k S,laysD ms k=.ok S → OkS ms S k
 | 0,S,h => by cases h;exact ⟨Nat.le_refl _,fun e he => by cases he⟩
 | k+1,S,h => by
   unfold laysD at h
   split at h
   ·cases h
   ·next S0 h0 =>
    split at h
    ·cases h
    ·next S1 h1 => cases h;exact (laysD_ok ms k S0 h0).lay h1
theorem laysD_step {ms:List MemV} {k:Nat} {S S':St} (h:laysD ms k=.ok S) (hl:layD ms S k=some S'):laysD ms (k+1)=.ok S':=by
 unfold laysD;rw [h]
 dsimp only
 rw [hl]
theorem laysD_fall {ms:List MemV} {k:Nat} {S:St} (h:laysD ms k=.ok S) (hl:layD ms S k=none):laysD ms (k+1)=.error k:=by
 unfold laysD;rw [h]
 dsimp only
 rw [hl]
theorem laysD_stay {ms:List MemV} {k:Nat} {i:Nat} (h:laysD ms k=.error i):∀ d,laysD ms (k+d)=.error i
 | 0 => h
 | d+1 => by
   show laysD ms ((k+d)+1)=_;unfold laysD;rw [laysD_stay h d]
theorem foldD_bad {ms:List MemV} {i:Nat} (h:badAt ms=some i):foldD ms=([],1,i):=by
 unfold badAt at h;unfold foldD;rw [h]
theorem foldD_link {ms:List MemV} {i:Nat} (h:badAt ms=none) (h2:laysD ms ms.length=.error i):foldD ms=([],7,i):=by
 unfold badAt at h;unfold foldD;rw [h]
 dsimp only
 rw [h2]
theorem foldD_ok {ms:List MemV} {S:St} (h:badAt ms=none) (h2:laysD ms ms.length=.ok S):foldD ms=(treeD ms S,0,0):=by
 unfold badAt at h;unfold foldD;rw [h]
 dsimp only
 rw [h2]
end Go.Proofs.YtfhelebejclalaaDoor.Tre
end
section
namespace Go.Proofs.YtfhelebejclalaaDoor.Tre
open Mem
set_option linter.unusedVariables false
theorem good_clean {m:MemV} (h:goodD m=true):cleanOk m.path=true:=by
 unfold goodD at h;simp only [Bool.and_eq_true] at h;exact h.1.1.1.1
def StG (ms:List MemV) (S:St):Prop:=∀ e ∈ S,e.2 < ms.length∧(ms.getD e.2 zeroMv).kind≠49∧cleanOk e.1=true
theorem StG.put {ms:List MemV} {S:St} (h:StG ms S) {p:List UInt8} {n:Nat} (hn:n < ms.length) (hk:(ms.getD n zeroMv).kind≠49) (hp:cleanOk p=true):StG ms (putS S p n):=by
 intro e he;unfold putS at he;rw [List.mem_append,List.mem_filter] at he;rcases he with he | he
 ·exact h e he.1
 ·rw [List.mem_singleton.1 he]
  exact ⟨hn,hk,hp⟩
end Go.Proofs.YtfhelebejclalaaDoor.Tre
end
section
namespace Go.Proofs.YtfhelebejclalaaDoor.Lnk
open Mem Tre
set_option linter.unusedVariables false
def hardN (x:NodeV) (p:List UInt8):MemV:=⟨x.path,p,49,x.mode,x.uid,x.gid,x.time,[]⟩
def nodeAt (t:List NodeV) (p:List UInt8):NodeV:=(findN t p).getD zeroN
structure LkS where
 led:List (List UInt8 × List UInt8)
 out:List MemV
def lkStep (t:List NodeV) (s:LkS) (p:List UInt8):LkS:=
 let x:=nodeAt t p
 if x.kind=48 then
  match s.led.find? (fun e => e.1 == x.leader) with
  | some e => ⟨s.led,s.out++[hardN x e.2]⟩
  | none => ⟨s.led++[(x.leader,x.path)],s.out++[x.mem]⟩
 else ⟨s.led,s.out++[x.mem]⟩
def lkGo (t:List NodeV) (order:List (List UInt8)):LkS:=order.foldl (lkStep t) ⟨[],[]⟩
def linksD (t:List NodeV) (order:List (List UInt8)):List MemV:=(lkGo t order).out
theorem lkGo_snoc (t:List NodeV) (os:List (List UInt8)) (p:List UInt8):lkGo t (os++[p])=lkStep t (lkGo t os) p:=by
 unfold lkGo;rw [List.foldl_append];rfl
def OrderOf (t:List NodeV) (os:List (List UInt8)):Prop:=os.Perm (t.map (·.path))
def repOf (t:List NodeV) (os:List (List UInt8)) (i:Nat):Nat:=
 if (nodeAt t (os.getD i [])).kind=48 then
  ((List.range (i+1)).find? fun j => decide ((nodeAt t (os.getD j [])).kind=48) && decide ((nodeAt t (os.getD j [])).leader=(nodeAt t (os.getD i [])).leader)).getD i
 else i
section
variable {t:List NodeV} {os:List (List UInt8)}
def SameC (t:List NodeV) (os:List (List UInt8)) (i j:Nat):Prop:=(nodeAt t (os.getD j [])).kind=48∧(nodeAt t (os.getD i [])).kind=48∧(nodeAt t (os.getD j [])).leader=(nodeAt t (os.getD i [])).leader
theorem rep_file {i:Nat} (h:(nodeAt t (os.getD i [])).kind=48):repOf t os i≤i∧SameC t os i (repOf t os i) ∧ ∀ j,j < repOf t os i → ¬ SameC t os i j:=by
 unfold repOf;rw [if_pos h]
 cases hf:(List.range (i+1)).find? (fun j => decide ((nodeAt t (os.getD j [])).kind=48) && decide ((nodeAt t (os.getD j [])).leader=(nodeAt t (os.getD i [])).leader)) with
 | none =>
   have:=List.find?_eq_none.1 hf i (List.mem_range.2 (Nat.lt_succ_self _));rw [decide_eq_true h,decide_eq_true rfl] at this;exact absurd rfl this
 | some j =>
   obtain ⟨h1,k,hk,e,h2⟩:=List.find?_eq_some_iff_getElem.1 hf;rw [List.getElem_range] at e;rw [List.length_range] at hk;subst e;simp only [Bool.and_eq_true,decide_eq_true_eq] at h1;refine ⟨by rw [Option.getD_some];omega,⟨by rw [Option.getD_some];exact h1.1,h,by rw [Option.getD_some];exact h1.2⟩,fun j hj hs => ?_⟩
   rw [Option.getD_some] at hj;have:=h2 j hj;rw [List.getElem_range] at this;simp only [Bool.not_eq_true',Bool.and_eq_false_iff,decide_eq_false_iff_not] at this;rcases this with h | h
   ·exact h hs.1
   ·exact h hs.2.2
theorem rep_other {i:Nat} (h:(nodeAt t (os.getD i [])).kind≠48):repOf t os i=i:=by
 unfold repOf;rw [if_neg h]
theorem rep_le (i:Nat):repOf t os i≤i:=by
 by_cases h:(nodeAt t (os.getD i [])).kind=48
 ·exact (rep_file h).1
 ·rw [rep_other h];exact Nat.le_refl _
theorem rep_same {i j:Nat} (h:SameC t os i j):repOf t os i=repOf t os j:=by
 obtain ⟨a1,a2,a3⟩:=rep_file (t:=t) (os:=os) (i:=i) h.2.1;obtain ⟨b1,b2,b3⟩:=rep_file (t:=t) (os:=os) (i:=j) h.1;rcases Nat.lt_trichotomy (repOf t os i) (repOf t os j) with hlt | he | hlt
 ·exact absurd ⟨a2.1,h.1,a2.2.2.trans h.2.2.symm⟩ (b3 _ hlt)
 ·exact he
 ·exact absurd ⟨b2.1,h.2.1,b2.2.2.trans h.2.2⟩ (a3 _ hlt)
theorem rep_rep (i:Nat):repOf t os (repOf t os i)=repOf t os i:=by
 by_cases h:(nodeAt t (os.getD i [])).kind=48
 ·exact (rep_same (rep_file h).2.1).symm
 ·rw [rep_other h,rep_other h]
theorem rep_kind (i:Nat):(nodeAt t (os.getD (repOf t os i) [])).kind=(nodeAt t (os.getD i [])).kind:=by
 by_cases h:(nodeAt t (os.getD i [])).kind=48
 ·rw [(rep_file h).2.1.1,h]
 ·rw [rep_other h]
def memAt (t:List NodeV) (os:List (List UInt8)) (i:Nat):MemV:=
 if repOf t os i=i then (nodeAt t (os.getD i [])).mem else hardN (nodeAt t (os.getD i [])) (os.getD (repOf t os i) [])
end
section
variable {t:List NodeV} {os:List (List UInt8)}
theorem nodeAt_path {p:List UInt8} (h:p ∈ t.map (·.path)):(nodeAt t p).path=p∧nodeAt t p ∈ t:=by
 obtain ⟨x,hx,rfl⟩:=List.mem_map.1 h;unfold nodeAt
 cases hf:findN t x.path with
 | none =>
   unfold findN at hf;have:=List.find?_eq_none.1 hf x hx;simp at this
 | some y =>
   unfold findN at hf;have h2':=List.find?_some hf;have h2:(y.path == x.path)=true:=h2';exact ⟨by simpa using h2,List.mem_of_find?_eq_some hf⟩
def firstsN (t:List NodeV) (os:List (List UInt8)) (n:Nat):List (List UInt8 × List UInt8):=
 ((List.range n).filter fun i => decide ((nodeAt t (os.getD i [])).kind=48) && decide (repOf t os i=i)).map fun i => ((nodeAt t (os.getD i [])).leader,(nodeAt t (os.getD i [])).path)
theorem lkGo_is (hp:∀ p ∈ os,p ∈ t.map (·.path)):∀ n,n≤os.length → lkGo t (os.take n)=⟨firstsN t os n,(List.range n).map (memAt t os)⟩
 | 0,_ => rfl
 | n+1,h => by
   have ih:=lkGo_is hp n (by omega)
   have hn:n < os.length:=by omega
   have hg:os.getD n []=os[n]:=by rw [List.getD,List.getElem?_eq_getElem hn];rfl
   have hpath:(nodeAt t (os.getD n [])).path=os.getD n []:=(nodeAt_path (hp _ (by rw [hg];exact List.getElem_mem hn))).1
   rw [List.take_succ_eq_append_getElem hn,lkGo_snoc,ih,← hg];unfold lkStep
   dsimp only
   rw [List.range_succ,List.map_append];unfold firstsN;rw [List.range_succ,List.filter_append,List.map_append]
   by_cases hk:(nodeAt t (os.getD n [])).kind=48
   ·rw [if_pos hk]
    obtain ⟨r1,r2,r3⟩:=rep_file (t:=t) (os:=os) (i:=n) hk
    by_cases hr:repOf t os n=n
    ·have hnone:(((List.range n).filter fun i => decide ((nodeAt t (os.getD i [])).kind=48) && decide (repOf t os i=i)).map fun i => ((nodeAt t (os.getD i [])).leader,(nodeAt t (os.getD i [])).path)).find? (fun e => e.1 == (nodeAt t (os.getD n [])).leader)=none:=by
      rw [List.find?_eq_none];intro e he;obtain ⟨i,hi,rfl⟩:=List.mem_map.1 he;rw [List.mem_filter,List.mem_range] at hi;obtain ⟨hi1,hi2⟩:=hi;simp only [Bool.and_eq_true,decide_eq_true_eq] at hi2;intro hc;have hc':(nodeAt t (os.getD i [])).leader=(nodeAt t (os.getD n [])).leader:=by simpa using hc
      exact r3 i (by omega) ⟨hi2.1,hk,hc'⟩
     rw [hnone]
     dsimp only
     have hm:memAt t os n=(nodeAt t (os.getD n [])).mem:=by unfold memAt;rw [if_pos hr]
     have hfl:[n].filter (fun i => decide ((nodeAt t (os.getD i [])).kind=48) && decide (repOf t os i=i))=[n]:=by
      rw [List.filter_cons_of_pos (by rw [decide_eq_true hk,decide_eq_true hr];rfl),List.filter_nil]
     rw [hfl,List.map_cons,List.map_nil,List.map_cons,List.map_nil,hm]
    ·have hlt:repOf t os n < n:=by omega
     have hsome:∃ e,(((List.range n).filter fun i => decide ((nodeAt t (os.getD i [])).kind=48) && decide (repOf t os i=i)).map fun i => ((nodeAt t (os.getD i [])).leader,(nodeAt t (os.getD i [])).path)).find? (fun e => e.1 == (nodeAt t (os.getD n [])).leader)=some e∧e.2=os.getD (repOf t os n) []:=by
      cases hf:(((List.range n).filter fun i => decide ((nodeAt t (os.getD i [])).kind=48) && decide (repOf t os i=i)).map fun i => ((nodeAt t (os.getD i [])).leader,(nodeAt t (os.getD i [])).path)).find? (fun e => e.1 == (nodeAt t (os.getD n [])).leader) with
      | none =>
        exfalso
        have hmem:((nodeAt t (os.getD (repOf t os n) [])).leader,(nodeAt t (os.getD (repOf t os n) [])).path) ∈ (((List.range n).filter fun i => decide ((nodeAt t (os.getD i [])).kind=48) && decide (repOf t os i=i)).map fun i => ((nodeAt t (os.getD i [])).leader,(nodeAt t (os.getD i [])).path)):=
         List.mem_map.2 ⟨repOf t os n,List.mem_filter.2 ⟨List.mem_range.2 hlt,by rw [decide_eq_true r2.1,decide_eq_true (rep_rep n)];rfl⟩,rfl⟩
        have:=List.find?_eq_none.1 hf _ hmem;apply this;show ((nodeAt t (os.getD (repOf t os n) [])).leader == (nodeAt t (os.getD n [])).leader)=true;rw [r2.2.2];exact beq_self_eq_true _
      | some e =>
        have h1:=List.mem_of_find?_eq_some hf;have h2':=List.find?_some hf;have h2:(e.1 == (nodeAt t (os.getD n [])).leader)=true:=h2';obtain ⟨i,hi,rfl⟩:=List.mem_map.1 h1;rw [List.mem_filter,List.mem_range] at hi;obtain ⟨hi1,hi2⟩:=hi;simp only [Bool.and_eq_true,decide_eq_true_eq] at hi2;have hl:(nodeAt t (os.getD i [])).leader=(nodeAt t (os.getD n [])).leader:=by simpa using h2
        have hs:SameC t os n i:=⟨hi2.1,hk,hl⟩;refine ⟨_,rfl,?_⟩;show (nodeAt t (os.getD i [])).path=_;have hin:repOf t os n=i:=(rep_same hs).trans hi2.2;rw [hin];have hgi:os.getD i []=os[i]'(by omega):=by rw [List.getD,List.getElem?_eq_getElem (by omega)];rfl
        exact (nodeAt_path (hp _ (by rw [hgi];exact List.getElem_mem _))).1
     obtain ⟨e,he1,he2⟩:=hsome;rw [he1]
     dsimp only
     have hm:memAt t os n=hardN (nodeAt t (os.getD n [])) e.2:=by unfold memAt;rw [if_neg hr,he2]
     have hfl:[n].filter (fun i => decide ((nodeAt t (os.getD i [])).kind=48) && decide (repOf t os i=i))=[]:=by
      rw [List.filter_cons_of_neg (by rw [decide_eq_false hr];simp),List.filter_nil]
     rw [hfl,List.map_nil,List.append_nil,List.map_cons,List.map_nil,hm]
   ·rw [if_neg hk]
    have hm:memAt t os n=(nodeAt t (os.getD n [])).mem:=by unfold memAt;rw [if_pos (rep_other hk)]
    have hfl:[n].filter (fun i => decide ((nodeAt t (os.getD i [])).kind=48) && decide (repOf t os i=i))=[]:=by
     rw [List.filter_cons_of_neg (by rw [decide_eq_false hk];simp),List.filter_nil]
    rw [hfl,List.map_nil,List.append_nil,List.map_cons,List.map_nil,hm]
theorem linksD_is (hp:∀ p ∈ os,p ∈ t.map (·.path)):linksD t os=(List.range os.length).map (memAt t os):=by
 have:=lkGo_is hp os.length (Nat.le_refl _);rw [List.take_of_length_le (Nat.le_refl _)] at this;unfold linksD;rw [this]
end
end Go.Proofs.YtfhelebejclalaaDoor.Lnk
end
section
namespace Go.Proofs.YtfhelebejclalaaDoor.Lnk
open Go.ChangeShapes Go.WideShapes Go.ChangeAt Go.RowKit Base Byt Txt Bk Rec Block Mem Go.Proofs.YtfhelebejclalaaDoor.Mp Tre Go.Lib
set_option linter.unusedVariables false
set_option maxRecDepth 100000
abbrev LkF:=List (List UInt8 × List UInt8)
theorem own_two {w:World} {B n m:Nat} {v u:Value} {xs ys:List Value} (h1:w.ownsRow B 50 8 v n xs) (h2:w.ownsRow B 9 1 u m ys):∀ k,u.ownBlock=some k → v.ownBlock≠some k:=fun k hu hv => by
 rcases h1.2 with ⟨rfl,_⟩ | ⟨g,cap,cur,rfl,_,hg,_⟩
 ·cases hv
 ·rcases h2.2 with ⟨rfl,_⟩ | ⟨g',cap',cur',rfl,_,hg',_⟩
  ·cases hu
  ·have e1:g=k:=by simpa [Value.ownBlock] using hv
   have e2:g'=k:=by simpa [Value.ownBlock] using hu
   subst e1;subst e2;rw [hg] at hg';simp only [Option.some.injEq,Obj.cells.injEq] at hg';exact absurd hg'.2.1 (by decide)
structure MbI (w wr:World) (F:LkF) (ms:List MemV) (vo v6 v7:Value) (ys:List MP):Prop where
 bel:Below w.heap.size w wr
 out:wr.ownsRow w.heap.size 50 8 vo ys.length (flatM ys)
 same:ys.map MP.m=ms
 bod:∀ y ∈ ys,BodyAt w y
 led:wr.ownsRow w.heap.size 9 1 v6 F.length (flatS (F.map (·.1)))
 fst:wr.ownsRow w.heap.size 9 1 v7 F.length (flatS (F.map (·.2)))
 sep:∀ k,v6.ownBlock=some k → v7.ownBlock≠some k
section
variable {w wr w':World} {F:LkF} {ms:List MemV} {vo v6 v7:Value} {ys:List MP}
theorem MbI.below (h:MbI w wr F ms vo v6 v7 ys) (hb:Below wr.heap.size wr w'):MbI w w' F ms vo v6 v7 ys where
 bel:=h.bel.trans (hb.mono h.bel.size)
 out:=row_below h.out hb
 same:=h.same
 bod:=h.bod
 led:=row_below h.led hb
 fst:=row_below h.fst hb
 sep:=h.sep
theorem MbI.add (h:MbI w wr F ms vo v6 v7 ys) {y:MP} {m:MemV} (hy:y.m=m) (hb:BodyAt w y) {v':Value} (hrow:w'.ownsRow w.heap.size 50 8 v' (ys++[y]).length (flatM (ys++[y]))) (hg:wr.grownBy w' vo.ownBlock):MbI w w' F (ms++[m]) v' v6 v7 (ys++[y]):=by
 have hK:Kept (fun b => vo.ownBlock=some b) wr w':=(Kept.refl _ wr).grown hg (fun k hk => .inr hk)
 exact
 { bel:=h.bel.trans (hK.below h.bel.size (fun k hk => (World.ownsRow.lt h.out _ hk).1))
   out:=hrow
   same:=by rw [List.map_append,h.same,← hy];rfl
   bod:=fun x hx => by
    rcases List.mem_append.1 hx with hx | hx
    ·exact h.bod x hx
    ·rw [List.mem_singleton.1 hx];exact hb
   led:=ownsRow_kept h.led hK (fun k hk e => own_two h.out h.led k hk e)
   fst:=ownsRow_kept h.fst hK (fun k hk e => own_two h.out h.fst k hk e)
   sep:=h.sep }
theorem MbI.off (h:MbI w wr F ms vo v6 v7 ys) {b:Nat} {t:TypeId} {cs:Array Value} (ht:t≠9) (hb:Blk wr b t cs):¬ twoV v6 v7 b:=fun e => by
 have key:∀ {v:Value} {n:Nat} {xs:List Value},wr.ownsRow w.heap.size 9 1 v n xs → v.ownBlock≠some b:=fun {v n xs} ho e => by
  rcases ho.2 with ⟨rfl,_⟩ | ⟨g,cap,cur,rfl,_,hg,_⟩
  ·cases e
  ·have hgb:g=b:=by simpa [Value.ownBlock] using e
   subst hgb;unfold Blk at hb;rw [hg] at hb;simp only [Option.some.injEq,Obj.cells.injEq] at hb;exact ht hb.2.1.symm
 rcases e with e | e
 ·exact key h.led e
 ·exact key h.fst e
end
end Go.Proofs.YtfhelebejclalaaDoor.Lnk
end
