/- Texts of this seat, merged: what the proof reaches. -/
import Derived.Test.YtphehianajckaaaHeapPlaysX3
import Derived.Laws.AppendOwnNone
import Derived.BigRegion
import Derived.Deep.QuietTactic
namespace Go.Proofs.Ytphehianajckaaa
namespace Base
end Base
namespace Byt
end Byt
end Go.Proofs.Ytphehianajckaaa
section
namespace Go.Proofs.Ytphehianajckaaa.Byt
open Go.ChangeShapes Go.WideShapes Go.ChangeAt Go.RowKit Base Go.Lib
set_option linter.unusedVariables false
def nums (bs:List UInt8):List Int:=bs.map fun x => (x.toNat:Int)
theorem nums_length (bs:List UInt8):(nums bs).length=bs.length:=by simp [nums]
theorem nums_bd (bs:List UInt8):∀ x ∈ nums bs,0≤x∧x < 256:=fun x hx => by
 obtain ⟨y,_,rfl⟩:=List.mem_map.1 hx;have:=y.toNat_lt;omega
theorem bytesOf_nums (bs:List UInt8):bytesOf (nums bs)=bs:=by
 unfold bytesOf nums;rw [List.map_map]
 conv => rhs;rw [← List.map_id bs]
 apply List.map_congr_left;intro x _;simp
theorem nums_getElem (bs:List UInt8) (j:Nat) (hj:j < bs.length):((nums bs).map (Value.int .u8))[j]? = some (.int .u8 (bs.getD j 0).toNat):=by
 simp [nums,List.getD,hj]
theorem append_bytes {P:Program} {w:World} {ops:Array Oper} {rest:List Oper} {o:Oper} {a:Act} {Q:Exit → Act → World → Prop} (hgd:o.guard=none) (s x:Operand) (t:TypeId)
 (ho:o.op=.call { callee:=.builtin .append,args:=#[s,x],argTypes:=#[t,t] })
 (base:Nat) (e:TypeId) (i:TypeInfo) (ht:P.underlying t=some (.slice e)) (hi:P.info? e=some i) (hz:i.zero=some (.int .u8 0)) (hsize:i.size=1) (hby:i.bytes=1)
 (v:Value) (n:Nat) (xs:List Int) (hs:a.eval s=v) (hown:w.ownsRow base e 1 v n (xs.map (Value.int .u8)))
 (p:Option Addr) (m c:Nat) (bs:List UInt8) (hx:a.eval x=.slice p m c) (hb:BAt w p m bs) (hl:bs.length=m) (hsum:n+m≤140737488351232) (hbase:base≤w.heap.size)
 (h:∀ v' w',w'.ownsRow base e 1 v' (n+m) ((xs++nums bs).map (Value.int .u8)) → w.grownBy w' v.ownBlock → wpList P ops Q rest (a.put o.dst v') w'):wpList P ops Q (o :: rest) a w:=by
 rcases p with _ | ad
 ·have hm:m=0:=by
   rcases Nat.eq_zero_or_pos m with h0 | h0
   ·exact h0
   ·obtain ⟨_,_,he,_⟩:=hb h0
    cases he
  subst hm;obtain rfl:bs=[]:=List.eq_nil_of_length_eq_zero hl
  have hrun:(Builtin.append_ #[t,t] o.type #[v,.slice none 0 c]).run P w=.ok v w:=by
   rcases hown.2 with ⟨rfl,rfl⟩ | ⟨g,cap,cur,rfl,_,_,hnc,_⟩
   ·simp [Builtin.append_,run_underlying ht,sizeOf,typeInfo,hi,Builtin.lenOf,Builtin.firstCells]
   ·simp [Builtin.append_,run_underlying ht,sizeOf,typeInfo,hi,Builtin.lenOf,Builtin.firstCells,hnc,storeCells]
  refine wpList_plain hgd fun K hK => ?_
  unfold Oper.wp;simp [execOp,ho,resolve,invoke,builtin,hs,hx,hrun,Result.andThen];exact hK _ _ (h v w (by simpa [nums] using hown) (World.grownBy.refl w _))
 ·refine wpList_append_own w hgd s x t ho base e i (.int .u8 0) 1 1 ht hi hz hsize hby rfl (by decide) v n (xs.map (Value.int .u8)) hs hown ad m c ((nums bs).map (Value.int .u8)) hx (by rw [List.length_map,nums_length,hl];omega) ?_ (ints_oneCell .u8 _) (by unfold maxLen;omega) (by omega) hbase ?_
  ·intro j u hj
   have hjl:j < m:=by
    have:=(List.getElem?_eq_some_iff.1 hj).1;rw [List.length_map,nums_length,hl] at this;exact this
   obtain ⟨b,off,he,hc⟩:=hb (by omega)
   cases he
   rw [nums_getElem bs j (by omega)] at hj
   cases hj
   rw [WideShapes.add_plain];exact hc j hjl
  ·intro v' w' h1 h2 _
   rw [← List.map_append] at h1;exact h v' w' h1 h2
end Go.Proofs.Ytphehianajckaaa.Byt
end
section
namespace Go.Proofs.Ytphehianajckaaa.Byt
open Go.ChangeShapes Go.WideShapes Go.ChangeAt Go.RowKit Base Go.Lib
set_option linter.unusedVariables false
structure Kept (S:Nat → Prop) (w w':World):Prop where
 os:w'.os=w.os
 tape:w'.tape=w.tape
 output:w'.output=w.output
 size:w.heap.size≤w'.heap.size
 block:∀ k,k < w.heap.size → ¬ S k → w'.heap[k]? = w.heap[k]?
def noneB:Nat → Prop:=fun _ => False
def oneB (g:Nat):Nat → Prop:=fun k => k=g
section
variable {S T:Nat → Prop} {w w' w'':World}
theorem Kept.refl (S:Nat → Prop) (w:World):Kept S w w:=⟨rfl,rfl,rfl,Nat.le_refl _,fun _ _ _ => rfl⟩
theorem Kept.trans (h:Kept S w w') (k:Kept S w' w''):Kept S w w'':=
 ⟨k.os.trans h.os,k.tape.trans h.tape,k.output.trans h.output,Nat.le_trans h.size k.size,fun i hi hn => (k.block i (Nat.lt_of_lt_of_le hi h.size) hn).trans (h.block i hi hn)⟩
theorem Kept.mono (h:Kept S w w') (hs:∀ k,S k → T k):Kept T w w':=⟨h.os,h.tape,h.output,h.size,fun k hk hn => h.block k hk fun hh => hn (hs k hh)⟩
theorem Kept.of_none (h:Kept noneB w w') (S:Nat → Prop):Kept S w w':=h.mono fun _ hh => hh.elim
theorem Kept.drewN (h:Kept S w w') (n:Nat):Kept S w (w'.drewN n):=h.trans ⟨rfl,rfl,rfl,Nat.le_refl _,fun _ _ _ => rfl⟩
theorem Kept.drew (h:Kept S w w'):Kept S w w'.drew:=h.trans ⟨rfl,rfl,rfl,Nat.le_refl _,fun _ _ _ => rfl⟩
theorem Kept.alloc (h:Kept S w w') (o:Obj):Kept S w (w'.alloc o):=h.trans ⟨rfl,rfl,rfl,by simp,fun k hk _ => Below.heap_alloc _ _ _ hk⟩
theorem Kept.setCell (h:Kept S w w') {a:Addr} (ha:w.heap.size≤a.block ∨ S a.block) (v:Value):Kept S w (w'.setCell a v):=
 ⟨h.os,h.tape,h.output,by simpa using h.size,fun k hk hn => by
  rw [Below.heap_setCell _ _ _ _ (fun e => by rcases ha with ha | ha;· omega
                                              ·exact hn (e ▸ ha))]
  exact h.block k hk hn⟩
theorem Kept.below (h:Kept S w w') {B:Nat} (hB:B≤w.heap.size) (hs:∀ k,S k → B≤k):Below B w w':=
 ⟨h.os,h.tape,h.output,h.size,fun k hk => h.block k (by omega) fun hh => by have:=hs k hh;omega⟩
theorem Kept.of_below (h:Below w.heap.size w w') (S:Nat → Prop):Kept S w w':=⟨h.os,h.tape,h.output,h.size,fun k hk _ => h.block k hk⟩
theorem Kept.grown (h:Kept S w w') {row:Option Nat} (hg:w'.grownBy w'' row) (hr:∀ k,row=some k → w.heap.size≤k ∨ S k):Kept S w w'':=
 ⟨hg.os.trans h.os,hg.tape.trans h.tape,hg.output.trans h.output,Nat.le_trans h.size hg.size,fun k hk hn => by
  rw [hg.block k (Nat.lt_of_lt_of_le hk h.size) (fun e => by rcases hr k e.symm with h1 | h1;· omega
                                                             ·exact hn h1)]
  exact h.block k hk hn⟩
theorem Kept.then (h:Kept S w w') (k:Kept T w' w'') (hs:∀ i,T i → w.heap.size≤i ∨ S i):Kept S w w'':=
 ⟨k.os.trans h.os,k.tape.trans h.tape,k.output.trans h.output,Nat.le_trans h.size k.size,fun i hi hn => by
  rw [k.block i (Nat.lt_of_lt_of_le hi h.size) (fun hh => by rcases hs i hh with h1 | h1;· omega
                                                             ·exact hn h1)]
  exact h.block i hi hn⟩
theorem Kept.at (h:Kept S w w') {k:Nat} (hk:k < w.heap.size) (hn:¬ S k):w'.heap[k]? = w.heap[k]?:=h.block k hk hn
theorem Kept.some_ (h:Kept S w w') {k:Nat} {o:Obj} (hk:w.heap[k]? = some o) (hn:¬ S k):w'.heap[k]? = some o:=
 (h.block k (Array.getElem?_eq_some_iff.1 hk).1 hn).trans hk
theorem BAt.kept {p:Option Addr} {n:Nat} {bs:List UInt8} (h:BAt w p n bs) (hk:Kept S w w') (hn:0 < n → ∀ a,p=some a → ¬ S a.block):BAt w' p n bs:=fun h0 => by
 obtain ⟨b,o,rfl,hbw,hc⟩:=h.cell h0;exact ⟨b,o,rfl,fun i hi => by rw [World.cell?_of_block (hk.block b hbw (hn h0 _ rfl))];exact hc i hi⟩
theorem ownsRow_kept {base:Nat} {e:TypeId} {size:Nat} {v:Value} {n:Nat} {xs:List Value} (h:w.ownsRow base e size v n xs) (hk:Kept S w w') (hn:∀ k,v.ownBlock=some k → ¬ S k):w'.ownsRow base e size v n xs:=
 ⟨h.1,h.2.imp id fun ⟨g,cap,cur,h1,h2,h3,h4⟩ => ⟨g,cap,cur,h1,h2,hk.some_ h3 (hn g (by rw [h1];rfl)),h4⟩⟩
def IAt (w:World) (p:Option Addr) (n:Nat) (zs:List Int):Prop:=
 0 < n → ∃ b o,p=some ⟨b,o,none⟩∧b < w.heap.size ∧ ∀ i,i < n → w.cell? ⟨b,o+i,none⟩=some (.int .i64 (zs.getD i 0))
theorem IAt.kept {p:Option Addr} {n:Nat} {zs:List Int} (h:IAt w p n zs) (hk:Kept S w w') (hn:0 < n → ∀ a,p=some a → ¬ S a.block):IAt w' p n zs:=fun h0 => by
 obtain ⟨b,o,rfl,hbw,hc⟩:=h h0;exact ⟨b,o,rfl,Nat.lt_of_lt_of_le hbw hk.size,fun i hi => by rw [World.cell?_of_block (hk.block b hbw (hn h0 _ rfl))];exact hc i hi⟩
theorem own_block {base:Nat} {e:TypeId} {size:Nat} {v:Value} {n:Nat} {xs:List Value} (h:w.ownsRow base e size v n xs) {p:Option Addr} {m c:Nat} (hv:v=.slice p m c):∀ a,p=some a → base≤a.block∧a.block < w.heap.size∧v.ownBlock=some a.block:=fun a ha => by
 subst ha hv;exact ⟨(h.lt _ rfl).1,(h.lt _ rfl).2,rfl⟩
end
theorem infoU8:(Try.prog.info? 5).map (fun i => (i.zero,i.size,i.bytes))=some (some (.int .u8 0),1,1):=by kernel_rfl
end Go.Proofs.Ytphehianajckaaa.Byt
end
section
namespace Go.Proofs.Ytphehianajckaaa.Block
open Go.ChangeShapes Go.WideShapes Go.ChangeAt Go.RowKit Base Byt Go.Lib
set_option linter.unusedVariables false
structure Sv where
 p:Option Addr
 n:Nat
 c:Nat
 bs:List UInt8
 q:Option Addr
 m:Nat
 d:Nat
 zs:List Int
section
variable {w w':World} {g a t:Nat} {S:Sv}
end
def Sv.off (S:Sv) (g:Nat):Prop:=0 < S.m → ∀ x,S.q=some x → x.block≠g
section
variable {w w':World} {g a t:Nat} {S:Sv}
end
end Go.Proofs.Ytphehianajckaaa.Block
end
section
namespace Go.Proofs.Ytphehianajckaaa.Block
open Go.ChangeShapes Go.WideShapes Go.ChangeAt Go.RowKit Base Byt Go.Lib
set_option linter.unusedVariables false
def OwnB (w:World) (B:Nat) (v:Value) (n:Nat) (bs:List UInt8):Prop:=w.ownsRow B 5 1 v n ((nums bs).map (Value.int .u8))
theorem OwnB.kept {T:Nat → Prop} {w w':World} {B:Nat} {v:Value} {n:Nat} {bs:List UInt8} (h:OwnB w B v n bs) (hk:Kept T w w') (hn:∀ k,v.ownBlock=some k → ¬ T k):OwnB w' B v n bs:=ownsRow_kept h hk hn
theorem OwnB.slice {w:World} {B:Nat} {v:Value} {n:Nat} {bs:List UInt8} (h:OwnB w B v n bs):∃ p c,v=.slice p n c∧n≤c∧c≤maxLen∧BAt w p n bs∧bs.length=n ∧ ∀ x,p=some x → B≤x.block∧x.block < w.heap.size∧v.ownBlock=some x.block:=by
 obtain ⟨p,c,hv,h1,h2,h3,h4⟩:=bat_of_own h (nums_bd bs);rw [bytesOf_nums] at h3 h4;exact ⟨p,c,hv,h1,h2,h3,h4,own_block h hv⟩
theorem OwnB.lt {w:World} {B:Nat} {v:Value} {n:Nat} {bs:List UInt8} (h:OwnB w B v n bs):∀ k,v.ownBlock=some k → B≤k∧k < w.heap.size:=World.ownsRow.lt h
theorem OwnB.mono {w:World} {B B':Nat} {v:Value} {n:Nat} {bs:List UInt8} (h:OwnB w B v n bs) (hb:B'≤B):OwnB w B' v n bs:=
 ⟨h.1,h.2.imp id fun ⟨g,cap,cur,h1,h2,h3⟩ => ⟨g,cap,cur,h1,Nat.le_trans hb h2,h3⟩⟩
end Go.Proofs.Ytphehianajckaaa.Block
end
section
namespace Go.Proofs.Ytphehianajckaaa.Byt
open Go.ChangeShapes Go.WideShapes Go.ChangeAt Go.RowKit Base
set_option linter.unusedVariables false
structure Since (w:World) where
 w':World
 bel:Below w.heap.size w w'
instance (w:World):Inhabited (Since w):=⟨⟨w,Below.refl _ _⟩⟩
theorem since_cell {w:World} {b o:Nat} {v:Value} (h:w.cell? ⟨b,o,none⟩=some v):∀ p:Since w,p.w'.cell? ⟨b,o,none⟩=some v:=
 fun p => (p.bel.cell (p:=⟨b,o,none⟩) (World.block_lt_of_cell? _ _ h)).trans h
theorem wp_region_since {P:Program} {id:Nat} {Q:Exit → Act → World → Prop} {a:Act} {w:World} {l:List Oper} (hm:P.follows .mixedOrders=true) (hB:Region.lexB .any l.toArray=true)
 (h:wpQuiet P l.toArray (fun w' => ∃ p:Since w,w'=p.w') (fun a' => ∀ w',(∃ p:Since w,w'=p.w') → Q .normal a' w') l a):(Code.region id l.toArray true).wp P Q a w:=
 wp_region_quiet (C:=fun w' => ∃ p:Since w,w'=p.w') hm hB ⟨⟨{ w with drawn:=w.drawn+1 },⟨rfl,rfl,rfl,Nat.le_refl _,fun _ _ => rfl⟩⟩,rfl⟩ (by simpa using h)
theorem Calls.since_of {P:Program} {f:FuncId} {args:Array Value} {w:World} {p:Since w} {v:Value}
 (h:Calls P f args p.w' fun e w' => e=.returned v∧Below p.w'.heap.size p.w' w'):Calls P f args p.w' fun e w'' => e=.returned v ∧ ∃ q:Since w,w''=q.w':=
 h.mono fun _ w'' ⟨he,hb⟩ => ⟨he,⟨w'',p.bel.trans (hb.mono p.bel.size)⟩,rfl⟩
theorem since_bel {w wq:World} (h:∃ p:Since w,wq=p.w'):Below w.heap.size w wq:=by
 obtain ⟨p,rfl⟩:=h;exact p.bel
end Go.Proofs.Ytphehianajckaaa.Byt
end
