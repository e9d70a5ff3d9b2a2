/- Texts of this seat, merged: what the proof reaches. -/
import Derived.Test.YtfpoipamioaklaaStorePlaysX4
import Derived.RangeFuncNested
import Derived.Test.YtfpoipamioaklaaStorePlaysX3
import Derived.Test.YtfpoipamioaklaaStorePlaysX5
import Derived.Test.YtfpoipamioaklaaStorePlaysX11
import Derived.Laws.AppendOwn
import Derived.OwnWalk
import Derived.Laws.StructEq
import Derived.Test.YtfpoipamioaklaaStorePlaysX6
import Derived.Test.YtfpoipamioaklaaStorePlaysX10
import Derived.Deep.SlicePairs
import Derived.OpenShut
import Derived.SizedLaws
namespace Go.Proofs.Ytfpoipamioaklaa
namespace Base
end Base
namespace Bk
end Bk
namespace Block
end Block
namespace Byt
end Byt
namespace Head
end Head
namespace Hp
end Hp
namespace Mem
end Mem
namespace Mk
end Mk
namespace Rec
end Rec
namespace Txt
end Txt
end Go.Proofs.Ytfpoipamioaklaa
section
namespace Go.Proofs.Ytfpoipamioaklaa.Bk
open Go.ChangeShapes Go.WideShapes Go.ChangeAt Go.RowKit Base Byt
set_option linter.unusedVariables false
def Blk (W:World) (b:Nat) (t:TypeId) (cs:Array Value):Prop:=W.heap[b]? = some (.cells cs t (0,0))
section
variable {W W':World} {b:Nat} {t:TypeId} {cs:Array Value}
theorem Blk.lt (h:Blk W b t cs):b < W.heap.size:=(Array.getElem?_eq_some_iff.1 h).1
theorem Blk.cell (h:Blk W b t cs) (i:Nat):W.cell? ⟨b,i,none⟩=cs[i]?:=by simp [World.cell?,show W.heap[b]? = _ from h]
theorem Blk.frozen (h:Blk W b t cs) (i:Nat):W.frozen? ⟨b,i,none⟩=false:=by simp [World.frozen?,show W.heap[b]? = _ from h]
theorem Blk.new (W:World) (t:TypeId) (cs:Array Value):Blk (W.alloc (.cells cs t)) W.heap.size t cs:=World.alloc_heap_new W _
theorem Blk.kept (h:Blk W b t cs) {row:Option Nat} (hg:W.grownBy W' row) (hr:∀ r,row=some r → ∃ o:Obj,W.heap[r]? = some o∧o.isCells=false):Blk W' b t cs:=
 (grownBy_keeps_cells hg hr h rfl).trans h
theorem Blk.alloc (h:Blk W b t cs) (o:Obj):Blk (W.alloc o) b t cs:=h.kept (World.grownBy_alloc W o none) (fun r e => by cases e)
theorem Blk.drewN (h:Blk W b t cs) (n:Nat):Blk (W.drewN n) b t cs:=h
theorem Blk.drew (h:Blk W b t cs):Blk W.drew b t cs:=h
theorem Blk.below (h:Blk W b t cs) {n:Nat} (hb:Below n W W') (hn:b < n):Blk W' b t cs:=(hb.block b hn).trans h
theorem Blk.keptS {S:Nat → Prop} (h:Blk W b t cs) (hk:Kept S W W') (hn:¬ S b):Blk W' b t cs:=hk.some_ h hn
theorem Blk.set (h:Blk W b t cs) (i:Nat) (v:Value) (hi:i < cs.size):Blk (W.setCell ⟨b,i,none⟩ v) b t (cs.set i v hi):=by
 obtain ⟨hl,he⟩:=Array.getElem?_eq_some_iff.1 h;unfold Blk World.setCell;refine Array.getElem?_eq_some_iff.2 ⟨by simpa using hl,?_⟩
 rw [Array.getElem_modify,if_pos rfl,he];simp [Array.setIfInBounds,hi]
end
end Go.Proofs.Ytfpoipamioaklaa.Bk
end
section
namespace Go.Proofs.Ytfpoipamioaklaa.Sto
open Go.ChangeShapes Go.WideShapes Go.ChangeAt Go.RowKit Base Byt Txt Bk Block Go.Lib
set_option linter.unusedVariables false
set_option maxRecDepth 100000
abbrev ptrS (g:Nat):Value:=.pointer (some ⟨g,0,none⟩)
def ChgPost (At:World → Nat → SM → (Nat → Prop) → Prop) (w:World) (g:Nat) (own:Nat → Prop) (v:Value) (M':SM) (e:Ending) (w':World):Prop:=
 ∃ own',e=.returned v∧At w' g M' own'∧(∀ b,own' b → own b ∨ w.heap.size≤b)∧Kept own w w'
def NewPost14 (At:World → Nat → SM → (Nat → Prop) → Prop) (w:World) (M:SM) (e:Ending) (w':World):Prop:=
 ∃ g own,e=.returned (ptrS g)∧At w' g M own∧(∀ b,own b → w.heap.size≤b)∧Below w.heap.size w w'
def ReadPost14 (w:World) (r:List UInt8 × Int) (e:Ending) (w':World):Prop:=
 ∃ v,e=.returned (.tuple #[v,.int .i64 r.2])∧OwnB w' w.heap.size v r.1.length r.1∧Kept noneB w w'
def ValPost (w:World) (v:Value) (e:Ending) (w':World):Prop:=e=.returned v∧Kept noneB w w'
structure StoC (At:World → Nat → SM → (Nat → Prop) → Prop):Prop where
 lt:∀ {w g M own},At w g M own → own g ∧ ∀ b,own b → b < w.heap.size
 frame:∀ {w w' g M own S},At w g M own → Kept S w w' → (∀ b,own b → ¬ S b) → At w' g M own
 new:∀ (w:World) (room:Int) (q:Option Addr) (m d:Nat) (zs:List Int),IAt w q m zs → zs.length=m → m≤d → d≤maxLen → m≤1000 → -9223372036854775808≤room → room≤9223372036854775807 →
  Calls Try.prog 8 #[.int .i64 room,.slice q m d] w (NewPost14 At w (newS room zs))
 create:∀ {w g M own},At w g M own → SmallS M → Calls Try.prog 9 #[ptrS g] w (ChgPost At w g own (.tuple #[.int .i64 (M.runs.length:Nat),.int .i64 0]) (createS M))
 append:∀ {w g M own} (id:Int) (p:Option Addr) (n c:Nat) (bs:List UInt8),At w g M own → SmallS M → BAt w p n bs → bs.length=n → n≤c → c≤maxLen → n≤1000000 → (0 < n → ∀ a,p=some a → ¬ own a.block) → -9223372036854775808≤id → id≤9223372036854775807 →
  Calls Try.prog 10 #[ptrS g,.int .i64 id,.slice p n c] w (ChgPost At w g own (.int .i64 (appendS M id bs).1) (appendS M id bs).2)
 read:∀ {w g M own} (id at_ n:Int),At w g M own → SmallS M → -9223372036854775808≤id → id≤9223372036854775807 → -9223372036854775808≤at_ → at_≤9223372036854775807 → -9223372036854775808≤n → n≤9223372036854775807 →
  Calls Try.prog 12 #[ptrS g,.int .i64 id,.int .i64 at_,.int .i64 n] w (ReadPost14 w (readS M id at_ n))
 drop:∀ {w g M own} (id:Int),At w g M own → SmallS M → -9223372036854775808≤id → id≤9223372036854775807 → Calls Try.prog 14 #[ptrS g,.int .i64 id] w (ChgPost At w g own (.int .i64 (dropS M id).1) (dropS M id).2)
 size:∀ {w g M own} (id:Int),At w g M own → SmallS M → -9223372036854775808≤id → id≤9223372036854775807 → Calls Try.prog 19 #[ptrS g,.int .i64 id] w (ValPost w (.int .i64 ((runS M id).length:Nat)))
 used:∀ {w g M own},At w g M own → SmallS M → Calls Try.prog 15 #[ptrS g] w (ValPost w (.int .i64 (usedS M:Nat)))
 peak:∀ {w g M own},At w g M own → SmallS M → Calls Try.prog 17 #[ptrS g] w (ValPost w (.int .i64 (M.peak:Nat)))
 writes:∀ {w g M own},At w g M own → SmallS M → Calls Try.prog 18 #[ptrS g] w (ValPost w (.int .i64 (M.writes:Nat)))
 create0:∀ (w:World),Calls Try.prog 9 #[.pointer none] w (ValPost w (.tuple #[.int .i64 0,.int .i64 1]))
 append0:∀ (w:World) (id:Int) (p:Option Addr) (n c:Nat),Calls Try.prog 10 #[.pointer none,.int .i64 id,.slice p n c] w (ValPost w (.int .i64 1))
 read0:∀ (w:World) (id at_ n:Int),Calls Try.prog 12 #[.pointer none,.int .i64 id,.int .i64 at_,.int .i64 n] w (ReadPost14 w ([],1))
 drop0:∀ (w:World) (id:Int),Calls Try.prog 14 #[.pointer none,.int .i64 id] w (ValPost w (.int .i64 1))
 size0:∀ (w:World) (id:Int),Calls Try.prog 19 #[.pointer none,.int .i64 id] w (ValPost w (.int .i64 0))
 used0:∀ (w:World),Calls Try.prog 15 #[.pointer none] w (ValPost w (.int .i64 0))
 peak0:∀ (w:World),Calls Try.prog 17 #[.pointer none] w (ValPost w (.int .i64 0))
 writes0:∀ (w:World),Calls Try.prog 18 #[.pointer none] w (ValPost w (.int .i64 0))
end Go.Proofs.Ytfpoipamioaklaa.Sto
end
section
namespace Go.Proofs.Ytfpoipamioaklaa.Sto
open Go.ChangeShapes Go.WideShapes Go.ChangeAt Go.RowKit Base Byt Txt Bk Mk Block Go.Lib
set_option linter.unusedVariables false
set_option maxRecDepth 100000
def intK:Keying Int where
 enc n:=.int .i64 n
 kind:=.int .i64
 isKey _:=rfl
 inj a b h:=by injection h
 same a:=by
  rw [Instr.sameBits];simp
def runsV (M:SM) (v:Int → Value):Int → Option Value:=fun id => if hasS M id=true then some (v id) else none
def failsV (zs:List Int):Int → Option Value:=fun x => if x ∈ zs then some (.agg #[]) else none
structure SstD (w:World) (g:Nat) (M:SM) (A F:Nat) (v:Int → Value):Prop where
 obj:Blk w g 53 #[.map (some A),.int .i64 (M.runs.length:Nat),.int .i64 (M.room:Nat),.map (some F),.int .i64 (M.writes:Nat),.int .i64 (usedS M:Nat),.int .i64 (M.peak:Nat)]
 runs:MapK intK w A (runsV M v)
 fails:MapK intK w F (failsV M.fails)
 data:∀ i,hasS M i=true → OwnB w 0 (v i) (runS M i).length (runS M i)
 apart:∀ i j b,hasS M i=true → hasS M j=true → (v i).ownBlock=some b → (v j).ownBlock=some b → i=j
 room:M.room≤9223372036854775807
 two:A≠F
def sstOwn (M:SM) (g A F:Nat) (v:Int → Value) (b:Nat):Prop:=b=g ∨ b=A ∨ b=F ∨ ∃ i,hasS M i=true∧(v i).ownBlock=some b
def StoAt (w:World) (g:Nat) (M:SM) (own:Nat → Prop):Prop:=∃ A F v,SstD w g M A F v ∧ ∀ b,own b ↔ sstOwn M g A F v b
theorem map_lt {w:World} {B:Nat} {f:Int → Option Value} (h:MapK intK w B f):B < w.heap.size:=by
 obtain ⟨es,c,h,_⟩:=h;exact (Array.getElem?_eq_some_iff.1 h).1
theorem map_not_blk {w:World} {B g:Nat} {t:TypeId} {cs:Array Value} {f:Int → Option Value} (h:MapK intK w B f) (hb:Blk w g t cs):g≠B:=fun e => by
 obtain ⟨es,c,h,_⟩:=h;unfold Blk at hb;rw [e,h] at hb
 cases hb
theorem ownB_blk {w:World} {B:Nat} {v:Value} {n:Nat} {bs:List UInt8} (h:OwnB w B v n bs) {b:Nat} (hb:v.ownBlock=some b):∃ cur,Blk w b 5 cur:=by
 rcases h.2 with ⟨h1,_⟩ | ⟨g,cap,cur,h1,_,hg,_⟩
 ·subst h1;cases hb
 ·subst h1;cases hb;exact ⟨cur,hg⟩
section
variable {w w':World} {g A F:Nat} {M M':SM} {v:Int → Value} {own:Nat → Prop}
theorem SstD.ne_map (h:SstD w g M A F v):g≠A∧g≠F:=⟨map_not_blk h.runs h.obj,map_not_blk h.fails h.obj⟩
theorem SstD.ne_data (h:SstD w g M A F v) {i:Int} (hi:hasS M i=true) {b:Nat} (hb:(v i).ownBlock=some b):b≠g∧b≠A∧b≠F:=by
 obtain ⟨cur,hc⟩:=ownB_blk (h.data i hi) hb;refine ⟨fun e => ?_,map_not_blk h.runs hc,map_not_blk h.fails hc⟩
 subst e;have h1:=h.obj;unfold Blk at h1 hc;rw [hc] at h1
 injection h1 with h1
 injection h1 with _ h1
 exact absurd h1 (by decide)
theorem SstD.lt (h:SstD w g M A F v):∀ b,sstOwn M g A F v b → b < w.heap.size:=by
 rintro b (rfl | rfl | rfl | ⟨i,hi,hb⟩)
 ·exact h.obj.lt
 ·exact map_lt h.runs
 ·exact map_lt h.fails
 ·exact ((h.data i hi).lt b hb).2
theorem SstD.keep (h:SstD w g M A F v) {S:Nat → Prop} (hk:Kept S w w') (hn:∀ b,sstOwn M g A F v b → ¬ S b):SstD w' g M A F v where
 obj:=h.obj.keptS hk (hn _ (.inl rfl))
 runs:=h.runs.kept hk (hn _ (.inr (.inl rfl)))
 fails:=h.fails.kept hk (hn _ (.inr (.inr (.inl rfl))))
 data:=fun i hi => (h.data i hi).kept hk (fun b hb => hn b (.inr (.inr (.inr ⟨i,hi,hb⟩))))
 apart:=h.apart
 room:=h.room
 two:=h.two
theorem SstD.none_ (h:SstD w g M A F v) (hk:Kept noneB w w'):SstD w' g M A F v:=h.keep hk (fun _ _ h => h)
theorem SstD.obj_ (h:SstD w g M A F v) (hk:Kept (oneB g) w w') (ho:Blk w' g 53 #[.map (some A),.int .i64 (M'.runs.length:Nat),.int .i64 (M'.room:Nat),.map (some F),.int .i64 (M'.writes:Nat),.int .i64 (usedS M':Nat),.int .i64 (M'.peak:Nat)])
 (h1:M'.runs=M.runs) (h2:M'.fails=M.fails) (h3:M'.room=M.room):SstD w' g M' A F v:=by
 have hh:∀ i,hasS M' i=hasS M i:=fun i => by unfold hasS;rw [h1]
 have hr:∀ i,runS M' i=runS M i:=fun i => by unfold runS;rw [hh,h1]
 exact
 { obj:=ho
   runs:=by
    have e:runsV M' v=runsV M v:=by funext i;unfold runsV;rw [hh]
    rw [e];exact h.runs.kept hk (fun e => h.ne_map.1 (show A=g from e).symm)
   fails:=by rw [h2];exact h.fails.kept hk (fun e => h.ne_map.2 (show F=g from e).symm)
   data:=fun i hi => by
    rw [hh] at hi;rw [hr];exact (h.data i hi).kept hk (fun b hb e => (h.ne_data hi hb).1 e)
   apart:=fun i j b hi hj => h.apart i j b (by rw [← hh];exact hi) (by rw [← hh];exact hj)
   room:=by rw [h3];exact h.room
   two:=h.two }
theorem SstD.look_ok (h:SstD w g M A F v) (i:Int):(Instr.lookup 50 (.map (some A)) (.int .i64 i) true).run Try.prog w=.ok (.tuple #[(runsV M v i).getD (.slice none 0 0),.bool (runsV M v i).isSome]) w:=
 MapK.look_ok (K:=intK) h.runs Try.underlying50 Try.underlying3 (fun w => Try.zeroValue32 w) i
theorem SstD.look (h:SstD w g M A F v) (i:Int):(Instr.lookup 50 (.map (some A)) (.int .i64 i) false).run Try.prog w=.ok ((runsV M v i).getD (.slice none 0 0)) w:=
 MapK.look (K:=intK) h.runs Try.underlying50 Try.underlying3 (fun w => Try.zeroValue32 w) i
theorem SstD.look_fails (h:SstD w g M A F v) (i:Int):(Instr.lookup 51 (.map (some F)) (.int .i64 i) true).run Try.prog w=.ok (.tuple #[(failsV M.fails i).getD (.agg #[]),.bool (failsV M.fails i).isSome]) w:=
 MapK.look_ok (K:=intK) h.fails Try.underlying51 Try.underlying3 (fun w => Try.zeroValue54 w) i
theorem runsV_yes {i:Int} (hi:hasS M i=true):runsV M v i=some (v i):=if_pos hi
theorem runsV_no {i:Int} (hi:hasS M i=false):runsV M v i=none:=if_neg (by rw [hi];decide)
theorem stoAt_lt (h:StoAt w g M own):own g ∧ ∀ b,own b → b < w.heap.size:=by
 obtain ⟨A,F,v,h,ho⟩:=h;exact ⟨(ho g).2 (.inl rfl),fun b hb => h.lt b ((ho b).1 hb)⟩
theorem stoAt_frame {S:Nat → Prop} (h:StoAt w g M own) (hk:Kept S w w') (hn:∀ b,own b → ¬ S b):StoAt w' g M own:=by
 obtain ⟨A,F,v,h,ho⟩:=h;exact ⟨A,F,v,h.keep hk (fun b hb => hn b ((ho b).2 hb)),ho⟩
end
end Go.Proofs.Ytfpoipamioaklaa.Sto
end
section
namespace Go.Proofs.Ytfpoipamioaklaa.Sto
open Go.ChangeShapes Go.WideShapes Go.ChangeAt Go.RowKit Base Byt Txt Bk Mk Block Go.Lib
set_option linter.unusedVariables false
set_option maxRecDepth 100000
theorem sstUsed_any {w:World} {g:Nat} {M:SM} {own:Nat → Prop} (h:StoAt w g M own) (hs:SmallS M):Calls Try.prog 15 #[ptrS g] w (ValPost w (.int .i64 (usedS M:Nat))):=by
 obtain ⟨A,F,v,h,ho⟩:=h;have c0:=h.obj.cell 5;simp only [List.getElem?_toArray,List.getElem?_cons_zero,List.getElem?_cons_succ] at c0;obtain ⟨x,hx⟩:∃ x,usedS M=x:=⟨_,rfl⟩;rw [hx] at c0 ⊢;clear h ho hs hx
 go_enter Try.func15,Try.ntmps15
 go_wp2
 go_ret
 exact ⟨rfl,Kept.refl _ _⟩
theorem sstUsed0_any (w:World):Calls Try.prog 15 #[.pointer none] w (ValPost w (.int .i64 0)):=by
 go_enter Try.func15,Try.ntmps15
 go_wp2
 go_ret
 exact ⟨rfl,Kept.refl _ _⟩
theorem sstPeak_any {w:World} {g:Nat} {M:SM} {own:Nat → Prop} (h:StoAt w g M own) (hs:SmallS M):Calls Try.prog 17 #[ptrS g] w (ValPost w (.int .i64 (M.peak:Nat))):=by
 obtain ⟨A,F,v,h,ho⟩:=h;have c0:=h.obj.cell 6;simp only [List.getElem?_toArray,List.getElem?_cons_zero,List.getElem?_cons_succ] at c0;obtain ⟨x,hx⟩:∃ x,M.peak=x:=⟨_,rfl⟩;rw [hx] at c0 ⊢;clear h ho hs hx
 go_enter Try.func17,Try.ntmps17
 go_wp2
 go_ret
 exact ⟨rfl,Kept.refl _ _⟩
theorem sstPeak0_any (w:World):Calls Try.prog 17 #[.pointer none] w (ValPost w (.int .i64 0)):=by
 go_enter Try.func17,Try.ntmps17
 go_wp2
 go_ret
 exact ⟨rfl,Kept.refl _ _⟩
theorem sstWrites_any {w:World} {g:Nat} {M:SM} {own:Nat → Prop} (h:StoAt w g M own) (hs:SmallS M):Calls Try.prog 18 #[ptrS g] w (ValPost w (.int .i64 (M.writes:Nat))):=by
 obtain ⟨A,F,v,h,ho⟩:=h;have c0:=h.obj.cell 4;simp only [List.getElem?_toArray,List.getElem?_cons_zero,List.getElem?_cons_succ] at c0;obtain ⟨x,hx⟩:∃ x,M.writes=x:=⟨_,rfl⟩;rw [hx] at c0 ⊢;clear h ho hs hx
 go_enter Try.func18,Try.ntmps18
 go_wp2
 go_ret
 exact ⟨rfl,Kept.refl _ _⟩
theorem sstWrites0_any (w:World):Calls Try.prog 18 #[.pointer none] w (ValPost w (.int .i64 0)):=by
 go_enter Try.func18,Try.ntmps18
 go_wp2
 go_ret
 exact ⟨rfl,Kept.refl _ _⟩
theorem sstSize_any {w:World} {g:Nat} {M:SM} {own:Nat → Prop} (h:StoAt w g M own) (hs:SmallS M) (id:Int):Calls Try.prog 19 #[ptrS g,.int .i64 id] w (ValPost w (.int .i64 ((runS M id).length:Nat))):=by
 obtain ⟨A,F,v,h,ho⟩:=h;have c0:=h.obj.cell 0;simp only [List.getElem?_toArray,List.getElem?_cons_zero] at c0;have lk:=h.look id;obtain ⟨T,hT⟩:∃ T,hasS M id=T:=⟨_,rfl⟩
 cases T with
 | false =>
   rw [runsV_no hT] at lk;have lk2:(Instr.lookup 50 (.map (some A)) (.int .i64 id) false).run Try.prog w=.ok (.slice none 0 0) w:=lk;rw [runS_none hT];clear lk h ho hs hT
   go_enter Try.func19,Try.ntmps19
   go_wp2
   go_ret
   exact ⟨rfl,Kept.refl _ _⟩
 | true =>
   rw [runsV_yes hT] at lk;obtain ⟨p,c,hv,_⟩:=(h.data id hT).slice;rw [hv] at lk;obtain ⟨n,hn⟩:∃ n,(runS M id).length=n:=⟨_,rfl⟩;rw [hn] at lk ⊢;have lk2:(Instr.lookup 50 (.map (some A)) (.int .i64 id) false).run Try.prog w=.ok (.slice p n c) w:=lk;clear lk h ho hs hT hv hn
   go_enter Try.func19,Try.ntmps19
   go_wp2
   go_ret
   exact ⟨rfl,Kept.refl _ _⟩
theorem sstSize0_any (w:World) (id:Int):Calls Try.prog 19 #[.pointer none,.int .i64 id] w (ValPost w (.int .i64 0)):=by
 go_enter Try.func19,Try.ntmps19
 go_wp2
 go_ret
 exact ⟨rfl,Kept.refl _ _⟩
theorem sstCreate0_any (w:World):Calls Try.prog 9 #[.pointer none] w (ValPost w (.tuple #[.int .i64 0,.int .i64 1])):=by
 go_enter Try.func9,Try.ntmps9
 go_wp2
 go_ret2
 exact ⟨rfl,Kept.refl _ _⟩
theorem sstAppend0_any (w:World) (id:Int) (p:Option Addr) (n c:Nat):Calls Try.prog 10 #[.pointer none,.int .i64 id,.slice p n c] w (ValPost w (.int .i64 1)):=by
 go_enter Try.func10,Try.ntmps10
 go_wp2
 go_ret
 exact ⟨rfl,Kept.refl _ _⟩
theorem sstDrop0_any (w:World) (id:Int):Calls Try.prog 14 #[.pointer none,.int .i64 id] w (ValPost w (.int .i64 1)):=by
 go_enter Try.func14,Try.ntmps14
 go_wp2
 go_ret
 exact ⟨rfl,Kept.refl _ _⟩
theorem ownB_nil (w:World) (B:Nat):OwnB w B (.slice none 0 0) 0 []:=World.ownsRow_nil w B 5 1
theorem sstRead0_any (w:World) (id a n:Int):Calls Try.prog 12 #[.pointer none,.int .i64 id,.int .i64 a,.int .i64 n] w (ReadPost14 w ([],1)):=by
 go_enter Try.func12,Try.ntmps12
 go_wp2
 go_ret2
 exact ⟨_,rfl,ownB_nil _ _,Kept.refl _ _⟩
end Go.Proofs.Ytfpoipamioaklaa.Sto
end
section
namespace Go.Proofs.Ytfpoipamioaklaa.Mem
open Go.ChangeShapes Go.WideShapes Go.ChangeAt Go.RowKit Base Byt Txt Bk Go.Lib
set_option linter.unusedVariables false
set_option maxRecDepth 100000
structure MP where
 m:MemV
 p:Option Addr
 c:Nat
def zeroM:MemV:=⟨[],[],0,0,0,0,0,[]⟩
def zeroP:MP:=⟨zeroM,none,0⟩
def memC (m:MemV) (p:Option Addr) (c:Nat):Array Value:=#[.string (str m.path),.string (str m.target),.int .u8 (m.kind.toNat:Int),.int .i64 m.mode,.int .i64 m.uid,.int .i64 m.gid,.int .i64 m.time,.slice p m.body.length c]
def MP.cs (x:MP):Array Value:=memC x.m x.p x.c
theorem MP.cs_list (x:MP):x.cs.toList=[.string (str x.m.path),.string (str x.m.target),.int .u8 (x.m.kind.toNat:Int),.int .i64 x.m.mode,.int .i64 x.m.uid,.int .i64 x.m.gid,.int .i64 x.m.time,.slice x.p x.m.body.length x.c]:=rfl
structure BodyAt (w:World) (x:MP):Prop where
 bat:BAt w x.p x.m.body.length x.m.body
 le:x.m.body.length≤x.c
 mx:x.c≤maxLen
theorem BodyAt.kept {S:Nat → Prop} {w w':World} {x:MP} (h:BodyAt w x) (hk:Kept S w w') (hn:0 < x.m.body.length → ∀ a,x.p=some a → ¬ S a.block):BodyAt w' x:=⟨h.bat.kept hk hn,h.le,h.mx⟩
theorem BodyAt.below {w w':World} {x:MP} (h:BodyAt w x) (hb:Below w.heap.size w w'):BodyAt w' x:=⟨h.bat.below hb,h.le,h.mx⟩
def MemsAt (w:World) (p:Option Addr) (n:Nat) (xs:List MP):Prop:=
 xs.length=n∧(∀ x ∈ xs,BodyAt w x)∧(0 < n → ∃ b o,p=some ⟨b,o,none⟩∧b < w.heap.size ∧ ∀ i,i < n → ∀ j,j < 8 → w.cell? ⟨b,o+8 * i+j,none⟩=(xs.getD i zeroP).cs[j]?)
theorem MemsAt.below {w w':World} {p:Option Addr} {n:Nat} {xs:List MP} (h:MemsAt w p n xs) (hb:Below w.heap.size w w'):MemsAt w' p n xs:=by
 refine ⟨h.1,fun x hx => (h.2.1 x hx).below hb,fun h0 => ?_⟩
 obtain ⟨b,o,rfl,hbw,hc⟩:=h.2.2 h0;refine ⟨b,o,rfl,Nat.lt_of_lt_of_le hbw hb.size,fun i hi j hj => ?_⟩
 rw [hb.cell (p:=⟨b,o+8 * i+j,none⟩) hbw];exact hc i hi j hj
theorem MemsAt.cells {w:World} {p:Option Addr} {n:Nat} {xs:List MP} (h:MemsAt w p n xs) {i:Nat} (hi:i < n):∃ b o,p=some ⟨b,o,none⟩∧b < w.heap.size∧BodyAt w (xs.getD i zeroP) ∧
 w.cell? ⟨b,o+8 * i,none⟩=some (.string (str (xs.getD i zeroP).m.path))∧w.cell? ⟨b,o+8 * i+1,none⟩=some (.string (str (xs.getD i zeroP).m.target)) ∧
 w.cell? ⟨b,o+8 * i+2,none⟩=some (.int .u8 ((xs.getD i zeroP).m.kind.toNat:Int))∧w.cell? ⟨b,o+8 * i+3,none⟩=some (.int .i64 (xs.getD i zeroP).m.mode) ∧
 w.cell? ⟨b,o+8 * i+4,none⟩=some (.int .i64 (xs.getD i zeroP).m.uid)∧w.cell? ⟨b,o+8 * i+5,none⟩=some (.int .i64 (xs.getD i zeroP).m.gid) ∧
 w.cell? ⟨b,o+8 * i+6,none⟩=some (.int .i64 (xs.getD i zeroP).m.time)∧w.cell? ⟨b,o+8 * i+7,none⟩=some (.slice (xs.getD i zeroP).p (xs.getD i zeroP).m.body.length (xs.getD i zeroP).c):=by
 obtain ⟨b,o,rfl,hbw,hc⟩:=h.2.2 (by omega)
 have hb:BodyAt w (xs.getD i zeroP):=h.2.1 _ (by
  have hl:i < xs.length:=by rw [h.1];exact hi
  rw [List.getD,List.getElem?_eq_getElem hl]
  exact List.getElem_mem hl)
 exact ⟨b,o,rfl,hbw,hb,hc i hi 0 (by omega),hc i hi 1 (by omega),hc i hi 2 (by omega),hc i hi 3 (by omega),hc i hi 4 (by omega),hc i hi 5 (by omega),hc i hi 6 (by omega),hc i hi 7 (by omega)⟩
end Go.Proofs.Ytfpoipamioaklaa.Mem
end
section
namespace Go.Proofs.Ytfpoipamioaklaa.Sto
open Go.ChangeShapes Go.WideShapes Go.ChangeAt Go.RowKit Base Byt Txt Bk Mem Go.Lib
set_option linter.unusedVariables false
set_option maxRecDepth 100000
structure OpV where
 kind:Int
 run:Int
 at_:Int
 n:Int
 b:List UInt8
structure OP where
 m:OpV
 p:Option Addr
 c:Nat
def zeroO:OP:=⟨⟨0,0,0,0,[]⟩,none,0⟩
def OP.cs (x:OP):Array Value:=#[.int .i64 x.m.kind,.int .i64 x.m.run,.int .i64 x.m.at_,.int .i64 x.m.n,.slice x.p x.m.b.length x.c]
theorem OP.cs_list (x:OP):x.cs.toList=[.int .i64 x.m.kind,.int .i64 x.m.run,.int .i64 x.m.at_,.int .i64 x.m.n,.slice x.p x.m.b.length x.c]:=rfl
structure BodO (w:World) (x:OP):Prop where
 bat:BAt w x.p x.m.b.length x.m.b
 le:x.m.b.length≤x.c
 mx:x.c≤maxLen
theorem BodO.below {w w':World} {x:OP} (h:BodO w x) (hb:Below w.heap.size w w'):BodO w' x:=⟨h.bat.below hb,h.le,h.mx⟩
def OpsAt (w:World) (p:Option Addr) (n:Nat) (xs:List OP):Prop:=
 xs.length=n∧(∀ x ∈ xs,BodO w x)∧(0 < n → ∃ b o,p=some ⟨b,o,none⟩∧b < w.heap.size ∧ ∀ i,i < n → ∀ j,j < 5 → w.cell? ⟨b,o+5 * i+j,none⟩=(xs.getD i zeroO).cs[j]?)
theorem OpsAt.below {w w':World} {p:Option Addr} {n:Nat} {xs:List OP} (h:OpsAt w p n xs) (hb:Below w.heap.size w w'):OpsAt w' p n xs:=by
 refine ⟨h.1,fun x hx => (h.2.1 x hx).below hb,fun h0 => ?_⟩
 obtain ⟨b,o,rfl,hbw,hc⟩:=h.2.2 h0;refine ⟨b,o,rfl,Nat.lt_of_lt_of_le hbw hb.size,fun i hi j hj => ?_⟩
 rw [hb.cell (p:=⟨b,o+5 * i+j,none⟩) hbw];exact hc i hi j hj
theorem ops_nil (w:World) (p:Option Addr):OpsAt w p 0 []:=⟨rfl,fun x hx => by simp at hx,fun h => by omega⟩
def Cells5 (w:World) (b o:Nat) (y:OP):Prop:=
 w.cell? ⟨b,o,none⟩=some (.int .i64 y.m.kind)∧w.cell? ⟨b,o+1,none⟩=some (.int .i64 y.m.run)∧w.cell? ⟨b,o+2,none⟩=some (.int .i64 y.m.at_)∧w.cell? ⟨b,o+3,none⟩=some (.int .i64 y.m.n)∧w.cell? ⟨b,o+4,none⟩=some (.slice y.p y.m.b.length y.c)
theorem OpsAt.cells5 {w:World} {p:Option Addr} {n:Nat} {xs:List OP} (h:OpsAt w p n xs) {i:Nat} (hi:i < n):∃ b o,p=some ⟨b,o,none⟩∧b < w.heap.size∧BodO w (xs.getD i zeroO)∧Cells5 w b (o+i * 5) (xs.getD i zeroO):=by
 obtain ⟨b,o,rfl,hbw,hc⟩:=h.2.2 (by omega)
 have hb:BodO w (xs.getD i zeroO):=h.2.1 _ (by
  have hl:i < xs.length:=by rw [h.1];exact hi
  rw [List.getD,List.getElem?_eq_getElem hl]
  exact List.getElem_mem hl)
 rw [Nat.mul_comm i 5];exact ⟨b,o,rfl,hbw,hb,hc i hi 0 (by omega),hc i hi 1 (by omega),hc i hi 2 (by omega),hc i hi 3 (by omega),hc i hi 4 (by omega)⟩
theorem getO_mem (xs:List OP) (k:Nat) (h:k < xs.length):xs.getD k zeroO ∈ xs:=by
 rw [List.getD,List.getElem?_eq_getElem h];exact List.getElem_mem h
def WfO (m:OpV):Prop:=(Lit.int .i64 m.kind).wf=true∧(Lit.int .i64 m.run).wf=true∧(Lit.int .i64 m.at_).wf=true∧(Lit.int .i64 m.n).wf=true
def RoomO (x:OP):Prop:=x.c≤140737488351232
end Go.Proofs.Ytfpoipamioaklaa.Sto
end
section
namespace Go.Proofs.Ytfpoipamioaklaa.Mem
open Go.ChangeShapes Go.WideShapes Go.ChangeAt Go.RowKit Go.Deep Base Byt Txt Bk Hp Head Rec Go.Lib
set_option linter.unusedVariables false
set_option maxRecDepth 100000
theorem list5 {α:Type} (l:List α) (h:l.length=5):∃ a b c d e,l=[a,b,c,d,e]:=by
 match l,h with
 | [a,b,c,d,e],_ => exact ⟨a,b,c,d,e,rfl⟩
theorem cellsY:Try.prog.cellsOf 32=1:=by kernel_rfl
instance:Inhabited MP:=⟨zeroP⟩
section
variable {H:Type} {enc:TypeId × Value → H} {w:World} {base:Nat} {held:Bool}
end
end Go.Proofs.Ytfpoipamioaklaa.Mem
end
section
namespace Go.Proofs.Ytfpoipamioaklaa.Sto
open Go.ChangeShapes Go.WideShapes Go.ChangeAt Go.RowKit Go.Deep Base Byt Txt Bk Hp Head Rec Mem Go.Lib
set_option linter.unusedVariables false
set_option maxRecDepth 100000
theorem list5 {α:Type} (l:List α) (h:l.length=5):∃ a b c d e,l=[a,b,c,d,e]:=by
 match l,h with
 | [a,b,c,d,e],_ => exact ⟨a,b,c,d,e,rfl⟩
theorem cellsO5:Try.prog.cellsOf 34=5:=by kernel_rfl
instance:Inhabited OP:=⟨zeroO⟩
section
variable {H:Type} {enc:TypeId × Value → H} {w:World} {base:Nat} {held:Bool}
theorem op_cells {cs:List Value} {d:DataW H} {ps:List MemPlace} {fuel:Nat} (hw:∀ z ∈ d.weights Try.prog 34,z≤reachBytes)
 (hf:DataW.trod enc Try.prog w base (fun _ => true) held fuel 34 cs=some (d,ps)) :
 ∃ x:OP,cs=x.cs.toList∧BodO w x∧WfO x.m∧RoomO x:=by
 obtain ⟨xs,n,rfl,hx,hl,hxl,hall⟩:=DataW.trod_struct Try.underlying34 hf;rw [cellsO5] at hl;obtain ⟨a,b,c,d',e,rfl⟩:=list5 cs hl;obtain ⟨x0,x1,x2,x3,x4,rfl⟩:=list5 xs (by simpa using hxl)
 have h0:=hall 0 _ rfl;have h1:=hall 1 _ rfl;have h2:=hall 2 _ rfl;have h3:=hall 3 _ rfl;have h4:=hall 4 _ rfl;simp only [List.getElem_toArray,List.getElem_cons_zero,List.getElem_cons_succ,cellsI,cellsY,List.drop_zero,List.drop_succ_cons,List.take_succ_cons,List.take_zero,List.getElem?_cons_zero,List.getElem?_cons_succ] at h0 h1 h2 h3 h4;obtain ⟨m0,f0,rfl,q0⟩:=DataW.trod_int Try.underlying3 h0;obtain ⟨m1,f1,rfl,q1⟩:=DataW.trod_int Try.underlying3 h1;obtain ⟨m2,f2,rfl,q2⟩:=DataW.trod_int Try.underlying3 h2;obtain ⟨m3,f3,rfl,q3⟩:=DataW.trod_int Try.underlying3 h3
 simp only [List.cons.injEq,and_true] at f0 f1 f2 f3;subst f0 f1 f2 f3;simp only [Prod.mk.injEq,List.map_cons,List.map_nil] at hx;obtain ⟨hd,_⟩:=hx
 have ew:d.weights Try.prog 34=DataW.weightsEach Try.prog [3,3,3,3,32] [.lit (.int .i64 m0),.lit (.int .i64 m1),.lit (.int .i64 m2),.lit (.int .i64 m3),x4.1]:=by
  rw [hd];simp only [DataW.weights,Try.underlying34];rfl
 have w4:∀ z ∈ x4.1.weights Try.prog 32,z≤reachBytes:=fun z hz => hw z (by
  rw [ew];simp only [DataW.weightsEach,List.mem_append]
  exact .inr (.inr (.inr (.inr (.inl hz)))))
 rcases open_ints Try.underlying32 Try.underlying5 cellsU h4 with ⟨hcs,_⟩ | ⟨x,l,cp,zs,hcs,_,hlc,hmx,hz,hxx,hcell,hwz⟩
 ·simp only [List.cons.injEq,and_true] at hcs
  subst hcs;exact ⟨⟨⟨m0,m1,m2,m3,[]⟩,none,0⟩,rfl,⟨fun h0 => by simp at h0,Nat.le_refl _,by show (0:Nat)≤maxLen;decide⟩,⟨q0,q1,q2,q3⟩,by show (0:Nat)≤_;omega⟩
 ·simp only [List.cons.injEq,and_true] at hcs
  subst hcs;simp only [if_true] at hz;have hrow:IsRow .u8 w (some x) l cp zs:=.inr ⟨_,rfl,hlc,hmx,hz,fun i hi => hcell i hi,hwz⟩
  obtain ⟨b1,b2,b3,b4⟩:=bat_of_row hrow
  have wc:=w4 (cp * 1) (by
   rw [hxx];simp only [DataW.weights,Try.underlying32,List.mem_cons,List.mem_append,lits,List.length_map,List.length_take,List.length_drop];refine .inl ?_
   rw [(by kernel_rfl:Try.prog.bytesOf 5=1)]
   congr 1
   omega)
  simp only [reachBytes] at wc;refine ⟨⟨⟨m0,m1,m2,m3,bytesOf (zs.take l)⟩,some x,cp⟩,?_,⟨?_,?_,hmx⟩,⟨q0,q1,q2,q3⟩,by show cp≤_;omega⟩
  ·rw [OP.cs_list]
   simp only [b2]
  ·show BAt w (some x) (bytesOf (zs.take l)).length (bytesOf (zs.take l))
   rw [b2];exact b1
  ·show (bytesOf (zs.take l)).length≤cp
   rw [b2];exact hlc
theorem ops_open {a:Option Addr} {len cap:Nat} {d:DataW H} {ps:List MemPlace} {ts:List TypeId} {ds:List (DataW H)} (hz:(DataW.weightsEach Try.prog ts ds).all (· ≤ reachBytes)=true) {j:Nat} (ht:ts[j]? = some 23) (hd:ds[j]? = some d)
 (h:DataW.Trod enc Try.prog w base (fun _ => true) held 23 (.slice a len cap) d ps) :
 ∃ xs:List OP,OpsAt w a len xs∧len≤cap∧cap≤maxLen∧cap * 56≤140737488351232 ∧ ∀ x ∈ xs,WfO x.m∧RoomO x:=by
 obtain ⟨fuel,hf⟩:=h;rcases open_slice Try.underlying23 hf with ⟨hcs,_⟩ | ⟨x,l,c,m,n,D,Pl,hcs,hb,hl,hm,hmm,hdd,hx⟩
 ·simp [Value.cells] at hcs
  obtain ⟨rfl,rfl,rfl⟩:=hcs;exact ⟨[],ops_nil w none,by omega,by omega,by omega,fun x hx => by simp at hx⟩
 ·simp [Value.cells] at hcs
  obtain ⟨rfl,rfl,rfl⟩:=hcs;simp only [if_true] at hmm;subst hmm;simp only [Prod.mk.injEq] at hdd;obtain ⟨hdd,_⟩:=hdd;have hw:=List.all_eq_true.1 hz
  have key:∀ i,i < len → ∃ q:OP,w.cells? base (x.add (i * 5)) 5=some q.cs.toList∧BodO w q∧WfO q.m∧RoomO q:=fun i hi => by
   obtain ⟨cs',h1,h2⟩:=hx i (by omega)
   rw [cellsO5] at h1;have hmem:D i ∈ (List.range len).map D:=List.mem_map.2 ⟨i,List.mem_range.2 hi,rfl⟩
   obtain ⟨q,rfl,g⟩:=op_cells (fun z hzz => by
    have hin:z ∈ d.weights Try.prog 23:=by
     rw [hdd];simp only [DataW.weights,Try.underlying23,List.mem_cons,List.mem_append];exact .inr (.inl (weights_all hmem hzz))
    exact of_decide_eq_true (hw _ (DataW.weights_mem_each ht hd _ hin))) h2
   exact ⟨q,h1,g⟩
  obtain ⟨q,hq⟩:=choose_lt key
  have hget:∀ i,i < len → ((List.range len).map q).getD i zeroO=q i:=fun i hi => by
   simp [List.getD,hi]
  have hbytes:m * 56 ∈ d.weights Try.prog 23:=by
   rw [hdd];simp only [DataW.weights,Try.underlying23,List.mem_cons,List.mem_append,List.length_map,List.length_range];refine .inl ?_
   rw [(by kernel_rfl:Try.prog.bytesOf 34=56)]
   congr 1
   omega
  have hby:=of_decide_eq_true (hw _ (DataW.weights_mem_each ht hd _ hbytes));simp only [reachBytes] at hby;refine ⟨(List.range len).map q,⟨by simp,fun y hy => ?_,fun h0 => ?_⟩,hl,hm,hby,fun y hy => ?_⟩
  ·obtain ⟨i,hi,rfl⟩:=List.mem_map.1 hy
   exact (hq i (List.mem_range.1 hi)).2.1
  ·obtain ⟨_,_,hc0⟩:=World.cells?_some (hq 0 h0).1
   have c0:w.cell? ((x.add (0 * 5)).add 0)=some (.int .i64 (q 0).m.kind):=hc0 0 (by omega)
   have hx0:x=⟨x.block,x.off,none⟩:=by
    obtain ⟨b,o,s⟩:=x
    have hs:s=none:=by
     have:w.cell? (⟨b,o,s⟩:Addr)=some (.int .i64 (q 0).m.kind):=by simpa [Addr.add] using c0
     exact World.cell?_spot this
    rw [hs]
   refine ⟨x.block,x.off,by rw [← hx0],?_,fun i hi j hj => ?_⟩
   ·have c0':w.cell? ((x.add (0 * 5)).add 0)=some (.int .i64 (q 0).m.kind):=c0
    first | rw [hx0,Lib.add_plain,Lib.add_plain] at c0' | rw [hx0,WideShapes.add_plain,WideShapes.add_plain] at c0'
    have c1':=World.block_lt_of_cell? _ _ c0';exact c1'
   ·obtain ⟨_,_,hci⟩:=World.cells?_some (hq i hi).1
    have:=hci j hj
    first | rw [hx0,Lib.add_plain,Lib.add_plain] at this | rw [hx0,WideShapes.add_plain,WideShapes.add_plain] at this
    rw [hget i hi,show x.off+5 * i+j=x.off+i * 5+j by omega,this,Array.getElem?_toList]
  ·obtain ⟨i,hi,rfl⟩:=List.mem_map.1 hy
   exact (hq i (List.mem_range.1 hi)).2.2
end
end Go.Proofs.Ytfpoipamioaklaa.Sto
end
