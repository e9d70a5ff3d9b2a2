/- Texts of this seat, merged: what the proof reaches. -/
import Derived.Test.YtfpoipamioaklaaStoreFullX3
import Derived.RangeFuncNested
import Derived.Test.YtfpoipamioaklaaStoreFullX5
import Derived.Test.YtfpoipamioaklaaStoreFullX4
namespace Go.Proofs.Ytfpoipamioaklaa
namespace Base
end Base
namespace Bk
end Bk
namespace Block
end Block
namespace Byt
end Byt
namespace Mk
end Mk
namespace Txt
end Txt
end Go.Proofs.Ytfpoipamioaklaa
section
namespace Go.Proofs.Ytfpoipamioaklaa.Bk
open Go.ChangeShapes Go.WideShapes Go.ChangeAt Go.RowKit Base Byt
set_option linter.unusedVariables false
def Blk (W:World) (b:Nat) (t:TypeId) (cs:Array Value):Prop:=W.heap[b]? = some (.cells cs t (0,0))
section
variable {W W':World} {b:Nat} {t:TypeId} {cs:Array Value}
theorem Blk.lt (h:Blk W b t cs):b < W.heap.size:=(Array.getElem?_eq_some_iff.1 h).1
theorem Blk.cell (h:Blk W b t cs) (i:Nat):W.cell? ⟨b,i,none⟩=cs[i]?:=by simp [World.cell?,show W.heap[b]? = _ from h]
theorem Blk.frozen (h:Blk W b t cs) (i:Nat):W.frozen? ⟨b,i,none⟩=false:=by simp [World.frozen?,show W.heap[b]? = _ from h]
theorem Blk.new (W:World) (t:TypeId) (cs:Array Value):Blk (W.alloc (.cells cs t)) W.heap.size t cs:=World.alloc_heap_new W _
theorem Blk.kept (h:Blk W b t cs) {row:Option Nat} (hg:W.grownBy W' row) (hr:∀ r,row=some r → ∃ o:Obj,W.heap[r]? = some o∧o.isCells=false):Blk W' b t cs:=
 (grownBy_keeps_cells hg hr h rfl).trans h
theorem Blk.alloc (h:Blk W b t cs) (o:Obj):Blk (W.alloc o) b t cs:=h.kept (World.grownBy_alloc W o none) (fun r e => by cases e)
theorem Blk.drewN (h:Blk W b t cs) (n:Nat):Blk (W.drewN n) b t cs:=h
theorem Blk.drew (h:Blk W b t cs):Blk W.drew b t cs:=h
theorem Blk.below (h:Blk W b t cs) {n:Nat} (hb:Below n W W') (hn:b < n):Blk W' b t cs:=(hb.block b hn).trans h
theorem Blk.keptS {S:Nat → Prop} (h:Blk W b t cs) (hk:Kept S W W') (hn:¬ S b):Blk W' b t cs:=hk.some_ h hn
theorem Blk.set (h:Blk W b t cs) (i:Nat) (v:Value) (hi:i < cs.size):Blk (W.setCell ⟨b,i,none⟩ v) b t (cs.set i v hi):=by
 obtain ⟨hl,he⟩:=Array.getElem?_eq_some_iff.1 h;unfold Blk World.setCell;refine Array.getElem?_eq_some_iff.2 ⟨by simpa using hl,?_⟩
 rw [Array.getElem_modify,if_pos rfl,he];simp [Array.setIfInBounds,hi]
end
end Go.Proofs.Ytfpoipamioaklaa.Bk
end
section
namespace Go.Proofs.Ytfpoipamioaklaa.Sto
open Go.ChangeShapes Go.WideShapes Go.ChangeAt Go.RowKit Base Byt Txt Bk Block Go.Lib
set_option linter.unusedVariables false
set_option maxRecDepth 100000
abbrev ptrS (g:Nat):Value:=.pointer (some ⟨g,0,none⟩)
def ChgPost (At:World → Nat → SM → (Nat → Prop) → Prop) (w:World) (g:Nat) (own:Nat → Prop) (v:Value) (M':SM) (e:Ending) (w':World):Prop:=
 ∃ own',e=.returned v∧At w' g M' own'∧(∀ b,own' b → own b ∨ w.heap.size≤b)∧Kept own w w'
def NewPost14 (At:World → Nat → SM → (Nat → Prop) → Prop) (w:World) (M:SM) (e:Ending) (w':World):Prop:=
 ∃ g own,e=.returned (ptrS g)∧At w' g M own∧(∀ b,own b → w.heap.size≤b)∧Below w.heap.size w w'
def ReadPost14 (w:World) (r:List UInt8 × Int) (e:Ending) (w':World):Prop:=
 ∃ v,e=.returned (.tuple #[v,.int .i64 r.2])∧OwnB w' w.heap.size v r.1.length r.1∧Kept noneB w w'
def ValPost (w:World) (v:Value) (e:Ending) (w':World):Prop:=e=.returned v∧Kept noneB w w'
structure StoC (At:World → Nat → SM → (Nat → Prop) → Prop):Prop where
 lt:∀ {w g M own},At w g M own → own g ∧ ∀ b,own b → b < w.heap.size
 frame:∀ {w w' g M own S},At w g M own → Kept S w w' → (∀ b,own b → ¬ S b) → At w' g M own
 new:∀ (w:World) (room:Int) (q:Option Addr) (m d:Nat) (zs:List Int),IAt w q m zs → zs.length=m → m≤d → d≤maxLen → m≤1000 → -9223372036854775808≤room → room≤9223372036854775807 →
  Calls Try.prog 8 #[.int .i64 room,.slice q m d] w (NewPost14 At w (newS room zs))
 create:∀ {w g M own},At w g M own → SmallS M → Calls Try.prog 9 #[ptrS g] w (ChgPost At w g own (.tuple #[.int .i64 (M.runs.length:Nat),.int .i64 0]) (createS M))
 append:∀ {w g M own} (id:Int) (p:Option Addr) (n c:Nat) (bs:List UInt8),At w g M own → SmallS M → BAt w p n bs → bs.length=n → n≤c → c≤maxLen → n≤1000000 → (0 < n → ∀ a,p=some a → ¬ own a.block) → -9223372036854775808≤id → id≤9223372036854775807 →
  Calls Try.prog 10 #[ptrS g,.int .i64 id,.slice p n c] w (ChgPost At w g own (.int .i64 (appendS M id bs).1) (appendS M id bs).2)
 read:∀ {w g M own} (id at_ n:Int),At w g M own → SmallS M → -9223372036854775808≤id → id≤9223372036854775807 → -9223372036854775808≤at_ → at_≤9223372036854775807 → -9223372036854775808≤n → n≤9223372036854775807 →
  Calls Try.prog 12 #[ptrS g,.int .i64 id,.int .i64 at_,.int .i64 n] w (ReadPost14 w (readS M id at_ n))
 drop:∀ {w g M own} (id:Int),At w g M own → SmallS M → -9223372036854775808≤id → id≤9223372036854775807 → Calls Try.prog 14 #[ptrS g,.int .i64 id] w (ChgPost At w g own (.int .i64 (dropS M id).1) (dropS M id).2)
 size:∀ {w g M own} (id:Int),At w g M own → SmallS M → -9223372036854775808≤id → id≤9223372036854775807 → Calls Try.prog 19 #[ptrS g,.int .i64 id] w (ValPost w (.int .i64 ((runS M id).length:Nat)))
 used:∀ {w g M own},At w g M own → SmallS M → Calls Try.prog 15 #[ptrS g] w (ValPost w (.int .i64 (usedS M:Nat)))
 peak:∀ {w g M own},At w g M own → SmallS M → Calls Try.prog 17 #[ptrS g] w (ValPost w (.int .i64 (M.peak:Nat)))
 writes:∀ {w g M own},At w g M own → SmallS M → Calls Try.prog 18 #[ptrS g] w (ValPost w (.int .i64 (M.writes:Nat)))
 create0:∀ (w:World),Calls Try.prog 9 #[.pointer none] w (ValPost w (.tuple #[.int .i64 0,.int .i64 1]))
 append0:∀ (w:World) (id:Int) (p:Option Addr) (n c:Nat),Calls Try.prog 10 #[.pointer none,.int .i64 id,.slice p n c] w (ValPost w (.int .i64 1))
 read0:∀ (w:World) (id at_ n:Int),Calls Try.prog 12 #[.pointer none,.int .i64 id,.int .i64 at_,.int .i64 n] w (ReadPost14 w ([],1))
 drop0:∀ (w:World) (id:Int),Calls Try.prog 14 #[.pointer none,.int .i64 id] w (ValPost w (.int .i64 1))
 size0:∀ (w:World) (id:Int),Calls Try.prog 19 #[.pointer none,.int .i64 id] w (ValPost w (.int .i64 0))
 used0:∀ (w:World),Calls Try.prog 15 #[.pointer none] w (ValPost w (.int .i64 0))
 peak0:∀ (w:World),Calls Try.prog 17 #[.pointer none] w (ValPost w (.int .i64 0))
 writes0:∀ (w:World),Calls Try.prog 18 #[.pointer none] w (ValPost w (.int .i64 0))
end Go.Proofs.Ytfpoipamioaklaa.Sto
end
section
namespace Go.Proofs.Ytfpoipamioaklaa.Sto
open Go.ChangeShapes Go.WideShapes Go.ChangeAt Go.RowKit Base Byt Txt Bk Mk Block Go.Lib
set_option linter.unusedVariables false
set_option maxRecDepth 100000
def intK:Keying Int where
 enc n:=.int .i64 n
 kind:=.int .i64
 isKey _:=rfl
 inj a b h:=by injection h
 same a:=by
  rw [Instr.sameBits];simp
def runsV (M:SM) (v:Int → Value):Int → Option Value:=fun id => if hasS M id=true then some (v id) else none
def failsV (zs:List Int):Int → Option Value:=fun x => if x ∈ zs then some (.agg #[]) else none
structure SstD (w:World) (g:Nat) (M:SM) (A F:Nat) (v:Int → Value):Prop where
 obj:Blk w g 53 #[.map (some A),.int .i64 (M.runs.length:Nat),.int .i64 (M.room:Nat),.map (some F),.int .i64 (M.writes:Nat),.int .i64 (usedS M:Nat),.int .i64 (M.peak:Nat)]
 runs:MapK intK w A (runsV M v)
 fails:MapK intK w F (failsV M.fails)
 data:∀ i,hasS M i=true → OwnB w 0 (v i) (runS M i).length (runS M i)
 apart:∀ i j b,hasS M i=true → hasS M j=true → (v i).ownBlock=some b → (v j).ownBlock=some b → i=j
 room:M.room≤9223372036854775807
 two:A≠F
def sstOwn (M:SM) (g A F:Nat) (v:Int → Value) (b:Nat):Prop:=b=g ∨ b=A ∨ b=F ∨ ∃ i,hasS M i=true∧(v i).ownBlock=some b
def StoAt (w:World) (g:Nat) (M:SM) (own:Nat → Prop):Prop:=∃ A F v,SstD w g M A F v ∧ ∀ b,own b ↔ sstOwn M g A F v b
theorem map_lt {w:World} {B:Nat} {f:Int → Option Value} (h:MapK intK w B f):B < w.heap.size:=by
 obtain ⟨es,c,h,_⟩:=h;exact (Array.getElem?_eq_some_iff.1 h).1
theorem map_not_blk {w:World} {B g:Nat} {t:TypeId} {cs:Array Value} {f:Int → Option Value} (h:MapK intK w B f) (hb:Blk w g t cs):g≠B:=fun e => by
 obtain ⟨es,c,h,_⟩:=h;unfold Blk at hb;rw [e,h] at hb
 cases hb
theorem ownB_blk {w:World} {B:Nat} {v:Value} {n:Nat} {bs:List UInt8} (h:OwnB w B v n bs) {b:Nat} (hb:v.ownBlock=some b):∃ cur,Blk w b 5 cur:=by
 rcases h.2 with ⟨h1,_⟩ | ⟨g,cap,cur,h1,_,hg,_⟩
 ·subst h1;cases hb
 ·subst h1;cases hb;exact ⟨cur,hg⟩
section
variable {w w':World} {g A F:Nat} {M M':SM} {v:Int → Value} {own:Nat → Prop}
theorem SstD.ne_map (h:SstD w g M A F v):g≠A∧g≠F:=⟨map_not_blk h.runs h.obj,map_not_blk h.fails h.obj⟩
theorem SstD.ne_data (h:SstD w g M A F v) {i:Int} (hi:hasS M i=true) {b:Nat} (hb:(v i).ownBlock=some b):b≠g∧b≠A∧b≠F:=by
 obtain ⟨cur,hc⟩:=ownB_blk (h.data i hi) hb;refine ⟨fun e => ?_,map_not_blk h.runs hc,map_not_blk h.fails hc⟩
 subst e;have h1:=h.obj;unfold Blk at h1 hc;rw [hc] at h1
 injection h1 with h1
 injection h1 with _ h1
 exact absurd h1 (by decide)
theorem SstD.lt (h:SstD w g M A F v):∀ b,sstOwn M g A F v b → b < w.heap.size:=by
 rintro b (rfl | rfl | rfl | ⟨i,hi,hb⟩)
 ·exact h.obj.lt
 ·exact map_lt h.runs
 ·exact map_lt h.fails
 ·exact ((h.data i hi).lt b hb).2
theorem SstD.keep (h:SstD w g M A F v) {S:Nat → Prop} (hk:Kept S w w') (hn:∀ b,sstOwn M g A F v b → ¬ S b):SstD w' g M A F v where
 obj:=h.obj.keptS hk (hn _ (.inl rfl))
 runs:=h.runs.kept hk (hn _ (.inr (.inl rfl)))
 fails:=h.fails.kept hk (hn _ (.inr (.inr (.inl rfl))))
 data:=fun i hi => (h.data i hi).kept hk (fun b hb => hn b (.inr (.inr (.inr ⟨i,hi,hb⟩))))
 apart:=h.apart
 room:=h.room
 two:=h.two
theorem SstD.none_ (h:SstD w g M A F v) (hk:Kept noneB w w'):SstD w' g M A F v:=h.keep hk (fun _ _ h => h)
theorem SstD.obj_ (h:SstD w g M A F v) (hk:Kept (oneB g) w w') (ho:Blk w' g 53 #[.map (some A),.int .i64 (M'.runs.length:Nat),.int .i64 (M'.room:Nat),.map (some F),.int .i64 (M'.writes:Nat),.int .i64 (usedS M':Nat),.int .i64 (M'.peak:Nat)])
 (h1:M'.runs=M.runs) (h2:M'.fails=M.fails) (h3:M'.room=M.room):SstD w' g M' A F v:=by
 have hh:∀ i,hasS M' i=hasS M i:=fun i => by unfold hasS;rw [h1]
 have hr:∀ i,runS M' i=runS M i:=fun i => by unfold runS;rw [hh,h1]
 exact
 { obj:=ho
   runs:=by
    have e:runsV M' v=runsV M v:=by funext i;unfold runsV;rw [hh]
    rw [e];exact h.runs.kept hk (fun e => h.ne_map.1 (show A=g from e).symm)
   fails:=by rw [h2];exact h.fails.kept hk (fun e => h.ne_map.2 (show F=g from e).symm)
   data:=fun i hi => by
    rw [hh] at hi;rw [hr];exact (h.data i hi).kept hk (fun b hb e => (h.ne_data hi hb).1 e)
   apart:=fun i j b hi hj => h.apart i j b (by rw [← hh];exact hi) (by rw [← hh];exact hj)
   room:=by rw [h3];exact h.room
   two:=h.two }
theorem SstD.look_ok (h:SstD w g M A F v) (i:Int):(Instr.lookup 50 (.map (some A)) (.int .i64 i) true).run Try.prog w=.ok (.tuple #[(runsV M v i).getD (.slice none 0 0),.bool (runsV M v i).isSome]) w:=
 MapK.look_ok (K:=intK) h.runs Try.underlying50 Try.underlying3 (fun w => Try.zeroValue32 w) i
theorem SstD.look (h:SstD w g M A F v) (i:Int):(Instr.lookup 50 (.map (some A)) (.int .i64 i) false).run Try.prog w=.ok ((runsV M v i).getD (.slice none 0 0)) w:=
 MapK.look (K:=intK) h.runs Try.underlying50 Try.underlying3 (fun w => Try.zeroValue32 w) i
theorem SstD.look_fails (h:SstD w g M A F v) (i:Int):(Instr.lookup 51 (.map (some F)) (.int .i64 i) true).run Try.prog w=.ok (.tuple #[(failsV M.fails i).getD (.agg #[]),.bool (failsV M.fails i).isSome]) w:=
 MapK.look_ok (K:=intK) h.fails Try.underlying51 Try.underlying3 (fun w => Try.zeroValue54 w) i
theorem runsV_yes {i:Int} (hi:hasS M i=true):runsV M v i=some (v i):=if_pos hi
theorem runsV_no {i:Int} (hi:hasS M i=false):runsV M v i=none:=if_neg (by rw [hi];decide)
theorem stoAt_lt (h:StoAt w g M own):own g ∧ ∀ b,own b → b < w.heap.size:=by
 obtain ⟨A,F,v,h,ho⟩:=h;exact ⟨(ho g).2 (.inl rfl),fun b hb => h.lt b ((ho b).1 hb)⟩
theorem stoAt_frame {S:Nat → Prop} (h:StoAt w g M own) (hk:Kept S w w') (hn:∀ b,own b → ¬ S b):StoAt w' g M own:=by
 obtain ⟨A,F,v,h,ho⟩:=h;exact ⟨A,F,v,h.keep hk (fun b hb => hn b ((ho b).2 hb)),ho⟩
end
end Go.Proofs.Ytfpoipamioaklaa.Sto
end
section
namespace Go.Proofs.Ytfpoipamioaklaa.Sto
open Go.ChangeShapes Go.WideShapes Go.ChangeAt Go.RowKit Base Byt Txt Bk Mk Block Go.Lib
set_option linter.unusedVariables false
set_option maxRecDepth 100000
theorem sstUsed_any {w:World} {g:Nat} {M:SM} {own:Nat → Prop} (h:StoAt w g M own) (hs:SmallS M):Calls Try.prog 15 #[ptrS g] w (ValPost w (.int .i64 (usedS M:Nat))):=by
 obtain ⟨A,F,v,h,ho⟩:=h;have c0:=h.obj.cell 5;simp only [List.getElem?_toArray,List.getElem?_cons_zero,List.getElem?_cons_succ] at c0;obtain ⟨x,hx⟩:∃ x,usedS M=x:=⟨_,rfl⟩;rw [hx] at c0 ⊢;clear h ho hs hx
 go_enter Try.func15,Try.ntmps15
 go_wp2
 go_ret
 exact ⟨rfl,Kept.refl _ _⟩
theorem sstUsed0_any (w:World):Calls Try.prog 15 #[.pointer none] w (ValPost w (.int .i64 0)):=by
 go_enter Try.func15,Try.ntmps15
 go_wp2
 go_ret
 exact ⟨rfl,Kept.refl _ _⟩
theorem sstPeak_any {w:World} {g:Nat} {M:SM} {own:Nat → Prop} (h:StoAt w g M own) (hs:SmallS M):Calls Try.prog 17 #[ptrS g] w (ValPost w (.int .i64 (M.peak:Nat))):=by
 obtain ⟨A,F,v,h,ho⟩:=h;have c0:=h.obj.cell 6;simp only [List.getElem?_toArray,List.getElem?_cons_zero,List.getElem?_cons_succ] at c0;obtain ⟨x,hx⟩:∃ x,M.peak=x:=⟨_,rfl⟩;rw [hx] at c0 ⊢;clear h ho hs hx
 go_enter Try.func17,Try.ntmps17
 go_wp2
 go_ret
 exact ⟨rfl,Kept.refl _ _⟩
theorem sstPeak0_any (w:World):Calls Try.prog 17 #[.pointer none] w (ValPost w (.int .i64 0)):=by
 go_enter Try.func17,Try.ntmps17
 go_wp2
 go_ret
 exact ⟨rfl,Kept.refl _ _⟩
theorem sstWrites_any {w:World} {g:Nat} {M:SM} {own:Nat → Prop} (h:StoAt w g M own) (hs:SmallS M):Calls Try.prog 18 #[ptrS g] w (ValPost w (.int .i64 (M.writes:Nat))):=by
 obtain ⟨A,F,v,h,ho⟩:=h;have c0:=h.obj.cell 4;simp only [List.getElem?_toArray,List.getElem?_cons_zero,List.getElem?_cons_succ] at c0;obtain ⟨x,hx⟩:∃ x,M.writes=x:=⟨_,rfl⟩;rw [hx] at c0 ⊢;clear h ho hs hx
 go_enter Try.func18,Try.ntmps18
 go_wp2
 go_ret
 exact ⟨rfl,Kept.refl _ _⟩
theorem sstWrites0_any (w:World):Calls Try.prog 18 #[.pointer none] w (ValPost w (.int .i64 0)):=by
 go_enter Try.func18,Try.ntmps18
 go_wp2
 go_ret
 exact ⟨rfl,Kept.refl _ _⟩
theorem sstSize_any {w:World} {g:Nat} {M:SM} {own:Nat → Prop} (h:StoAt w g M own) (hs:SmallS M) (id:Int):Calls Try.prog 19 #[ptrS g,.int .i64 id] w (ValPost w (.int .i64 ((runS M id).length:Nat))):=by
 obtain ⟨A,F,v,h,ho⟩:=h;have c0:=h.obj.cell 0;simp only [List.getElem?_toArray,List.getElem?_cons_zero] at c0;have lk:=h.look id;obtain ⟨T,hT⟩:∃ T,hasS M id=T:=⟨_,rfl⟩
 cases T with
 | false =>
   rw [runsV_no hT] at lk;have lk2:(Instr.lookup 50 (.map (some A)) (.int .i64 id) false).run Try.prog w=.ok (.slice none 0 0) w:=lk;rw [runS_none hT];clear lk h ho hs hT
   go_enter Try.func19,Try.ntmps19
   go_wp2
   go_ret
   exact ⟨rfl,Kept.refl _ _⟩
 | true =>
   rw [runsV_yes hT] at lk;obtain ⟨p,c,hv,_⟩:=(h.data id hT).slice;rw [hv] at lk;obtain ⟨n,hn⟩:∃ n,(runS M id).length=n:=⟨_,rfl⟩;rw [hn] at lk ⊢;have lk2:(Instr.lookup 50 (.map (some A)) (.int .i64 id) false).run Try.prog w=.ok (.slice p n c) w:=lk;clear lk h ho hs hT hv hn
   go_enter Try.func19,Try.ntmps19
   go_wp2
   go_ret
   exact ⟨rfl,Kept.refl _ _⟩
theorem sstSize0_any (w:World) (id:Int):Calls Try.prog 19 #[.pointer none,.int .i64 id] w (ValPost w (.int .i64 0)):=by
 go_enter Try.func19,Try.ntmps19
 go_wp2
 go_ret
 exact ⟨rfl,Kept.refl _ _⟩
theorem sstCreate0_any (w:World):Calls Try.prog 9 #[.pointer none] w (ValPost w (.tuple #[.int .i64 0,.int .i64 1])):=by
 go_enter Try.func9,Try.ntmps9
 go_wp2
 go_ret2
 exact ⟨rfl,Kept.refl _ _⟩
theorem sstAppend0_any (w:World) (id:Int) (p:Option Addr) (n c:Nat):Calls Try.prog 10 #[.pointer none,.int .i64 id,.slice p n c] w (ValPost w (.int .i64 1)):=by
 go_enter Try.func10,Try.ntmps10
 go_wp2
 go_ret
 exact ⟨rfl,Kept.refl _ _⟩
theorem sstDrop0_any (w:World) (id:Int):Calls Try.prog 14 #[.pointer none,.int .i64 id] w (ValPost w (.int .i64 1)):=by
 go_enter Try.func14,Try.ntmps14
 go_wp2
 go_ret
 exact ⟨rfl,Kept.refl _ _⟩
theorem ownB_nil (w:World) (B:Nat):OwnB w B (.slice none 0 0) 0 []:=World.ownsRow_nil w B 5 1
theorem sstRead0_any (w:World) (id a n:Int):Calls Try.prog 12 #[.pointer none,.int .i64 id,.int .i64 a,.int .i64 n] w (ReadPost14 w ([],1)):=by
 go_enter Try.func12,Try.ntmps12
 go_wp2
 go_ret2
 exact ⟨_,rfl,ownB_nil _ _,Kept.refl _ _⟩
end Go.Proofs.Ytfpoipamioaklaa.Sto
end
