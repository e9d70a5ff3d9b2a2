/- Texts of this seat, merged: what the proof reaches. -/
import Derived.Test.YtnpkcneojilmkaaGreatDoorMemberGNUX11
import Derived.Laws.AppendOwnNone
import Derived.BigRegion
import Derived.RegionTactic
import Derived.Maps.OwnOps
import Derived.Maps.Own
section
namespace Go.Proofs.YtnpkcneojilmkaaGreatDoor.Byt
open Go.ChangeShapes Go.WideShapes Go.ChangeAt Go.RowKit Base Go.Lib
set_option linter.unusedVariables false
def nums (bs:List UInt8):List Int:=bs.map fun x => (x.toNat:Int)
theorem nums_length (bs:List UInt8):(nums bs).length=bs.length:=by simp [nums]
theorem nums_bd (bs:List UInt8):∀ x ∈ nums bs,0≤x∧x < 256:=fun x hx => by
 obtain ⟨y,_,rfl⟩:=List.mem_map.1 hx;have:=y.toNat_lt;omega
theorem bytesOf_nums (bs:List UInt8):bytesOf (nums bs)=bs:=by
 unfold bytesOf nums;rw [List.map_map]
 conv => rhs;rw [← List.map_id bs]
 apply List.map_congr_left;intro x _;simp
theorem nums_getElem (bs:List UInt8) (j:Nat) (hj:j < bs.length):((nums bs).map (Value.int .u8))[j]? = some (.int .u8 (bs.getD j 0).toNat):=by
 simp [nums,List.getD,hj]
theorem append_bytes {P:Program} {w:World} {ops:Array Oper} {rest:List Oper} {o:Oper} {a:Act} {Q:Exit → Act → World → Prop} (hgd:o.guard=none) (s x:Operand) (t:TypeId)
 (ho:o.op=.call { callee:=.builtin .append,args:=#[s,x],argTypes:=#[t,t] })
 (base:Nat) (e:TypeId) (i:TypeInfo) (ht:P.underlying t=some (.slice e)) (hi:P.info? e=some i) (hz:i.zero=some (.int .u8 0)) (hsize:i.size=1) (hby:i.bytes=1)
 (v:Value) (n:Nat) (xs:List Int) (hs:a.eval s=v) (hown:w.ownsRow base e 1 v n (xs.map (Value.int .u8)))
 (p:Option Addr) (m c:Nat) (bs:List UInt8) (hx:a.eval x=.slice p m c) (hb:BAt w p m bs) (hl:bs.length=m) (hsum:n+m≤140737488351232) (hbase:base≤w.heap.size)
 (h:∀ v' w',w'.ownsRow base e 1 v' (n+m) ((xs++nums bs).map (Value.int .u8)) → w.grownBy w' v.ownBlock → wpList P ops Q rest (a.put o.dst v') w'):wpList P ops Q (o :: rest) a w:=by
 rcases p with _ | ad
 ·have hm:m=0:=by
   rcases Nat.eq_zero_or_pos m with h0 | h0
   ·exact h0
   ·obtain ⟨_,_,he,_⟩:=hb h0
    cases he
  subst hm;obtain rfl:bs=[]:=List.eq_nil_of_length_eq_zero hl
  have hrun:(Builtin.append_ #[t,t] o.type #[v,.slice none 0 c]).run P w=.ok v w:=by
   rcases hown.2 with ⟨rfl,rfl⟩ | ⟨g,cap,cur,rfl,_,_,hnc,_⟩
   ·simp [Builtin.append_,run_underlying ht,sizeOf,typeInfo,hi,Builtin.lenOf,Builtin.firstCells]
   ·simp [Builtin.append_,run_underlying ht,sizeOf,typeInfo,hi,Builtin.lenOf,Builtin.firstCells,hnc,storeCells]
  refine wpList_plain hgd fun K hK => ?_
  unfold Oper.wp;simp [execOp,ho,resolve,invoke,builtin,hs,hx,hrun,Result.andThen];exact hK _ _ (h v w (by simpa [nums] using hown) (World.grownBy.refl w _))
 ·refine wpList_append_own w hgd s x t ho base e i (.int .u8 0) 1 1 ht hi hz hsize hby rfl (by decide) v n (xs.map (Value.int .u8)) hs hown ad m c ((nums bs).map (Value.int .u8)) hx (by rw [List.length_map,nums_length,hl];omega) ?_ (ints_oneCell .u8 _) (by unfold maxLen;omega) (by omega) hbase ?_
  ·intro j u hj
   have hjl:j < m:=by
    have:=(List.getElem?_eq_some_iff.1 hj).1;rw [List.length_map,nums_length,hl] at this;exact this
   obtain ⟨b,off,he,hc⟩:=hb (by omega)
   cases he
   rw [nums_getElem bs j (by omega)] at hj
   cases hj
   rw [WideShapes.add_plain];exact hc j hjl
  ·intro v' w' h1 h2 _
   rw [← List.map_append] at h1;exact h v' w' h1 h2
end Go.Proofs.YtnpkcneojilmkaaGreatDoor.Byt
end
section
namespace Go.Proofs.YtnpkcneojilmkaaGreatDoor.Byt
open Go.ChangeShapes Go.WideShapes Go.ChangeAt Go.RowKit Base Go.Lib
set_option linter.unusedVariables false
structure Kept (S:Nat → Prop) (w w':World):Prop where
 os:w'.os=w.os
 tape:w'.tape=w.tape
 output:w'.output=w.output
 size:w.heap.size≤w'.heap.size
 block:∀ k,k < w.heap.size → ¬ S k → w'.heap[k]? = w.heap[k]?
def noneB:Nat → Prop:=fun _ => False
def oneB (g:Nat):Nat → Prop:=fun k => k=g
section
variable {S T:Nat → Prop} {w w' w'':World}
theorem Kept.refl (S:Nat → Prop) (w:World):Kept S w w:=⟨rfl,rfl,rfl,Nat.le_refl _,fun _ _ _ => rfl⟩
theorem Kept.trans (h:Kept S w w') (k:Kept S w' w''):Kept S w w'':=
 ⟨k.os.trans h.os,k.tape.trans h.tape,k.output.trans h.output,Nat.le_trans h.size k.size,fun i hi hn => (k.block i (Nat.lt_of_lt_of_le hi h.size) hn).trans (h.block i hi hn)⟩
theorem Kept.mono (h:Kept S w w') (hs:∀ k,S k → T k):Kept T w w':=⟨h.os,h.tape,h.output,h.size,fun k hk hn => h.block k hk fun hh => hn (hs k hh)⟩
theorem Kept.of_none (h:Kept noneB w w') (S:Nat → Prop):Kept S w w':=h.mono fun _ hh => hh.elim
theorem Kept.drewN (h:Kept S w w') (n:Nat):Kept S w (w'.drewN n):=h.trans ⟨rfl,rfl,rfl,Nat.le_refl _,fun _ _ _ => rfl⟩
theorem Kept.drew (h:Kept S w w'):Kept S w w'.drew:=h.trans ⟨rfl,rfl,rfl,Nat.le_refl _,fun _ _ _ => rfl⟩
theorem Kept.alloc (h:Kept S w w') (o:Obj):Kept S w (w'.alloc o):=h.trans ⟨rfl,rfl,rfl,by simp,fun k hk _ => Below.heap_alloc _ _ _ hk⟩
theorem Kept.setCell (h:Kept S w w') {a:Addr} (ha:w.heap.size≤a.block ∨ S a.block) (v:Value):Kept S w (w'.setCell a v):=
 ⟨h.os,h.tape,h.output,by simpa using h.size,fun k hk hn => by
  rw [Below.heap_setCell _ _ _ _ (fun e => by rcases ha with ha | ha;· omega
                                              ·exact hn (e ▸ ha))]
  exact h.block k hk hn⟩
theorem Kept.below (h:Kept S w w') {B:Nat} (hB:B≤w.heap.size) (hs:∀ k,S k → B≤k):Below B w w':=
 ⟨h.os,h.tape,h.output,h.size,fun k hk => h.block k (by omega) fun hh => by have:=hs k hh;omega⟩
theorem Kept.of_below (h:Below w.heap.size w w') (S:Nat → Prop):Kept S w w':=⟨h.os,h.tape,h.output,h.size,fun k hk _ => h.block k hk⟩
theorem Kept.grown (h:Kept S w w') {row:Option Nat} (hg:w'.grownBy w'' row) (hr:∀ k,row=some k → w.heap.size≤k ∨ S k):Kept S w w'':=
 ⟨hg.os.trans h.os,hg.tape.trans h.tape,hg.output.trans h.output,Nat.le_trans h.size hg.size,fun k hk hn => by
  rw [hg.block k (Nat.lt_of_lt_of_le hk h.size) (fun e => by rcases hr k e.symm with h1 | h1;· omega
                                                             ·exact hn h1)]
  exact h.block k hk hn⟩
theorem Kept.then (h:Kept S w w') (k:Kept T w' w'') (hs:∀ i,T i → w.heap.size≤i ∨ S i):Kept S w w'':=
 ⟨k.os.trans h.os,k.tape.trans h.tape,k.output.trans h.output,Nat.le_trans h.size k.size,fun i hi hn => by
  rw [k.block i (Nat.lt_of_lt_of_le hi h.size) (fun hh => by rcases hs i hh with h1 | h1;· omega
                                                             ·exact hn h1)]
  exact h.block i hi hn⟩
theorem Kept.at (h:Kept S w w') {k:Nat} (hk:k < w.heap.size) (hn:¬ S k):w'.heap[k]? = w.heap[k]?:=h.block k hk hn
theorem Kept.some_ (h:Kept S w w') {k:Nat} {o:Obj} (hk:w.heap[k]? = some o) (hn:¬ S k):w'.heap[k]? = some o:=
 (h.block k (Array.getElem?_eq_some_iff.1 hk).1 hn).trans hk
theorem BAt.kept {p:Option Addr} {n:Nat} {bs:List UInt8} (h:BAt w p n bs) (hk:Kept S w w') (hn:0 < n → ∀ a,p=some a → ¬ S a.block):BAt w' p n bs:=fun h0 => by
 obtain ⟨b,o,rfl,hbw,hc⟩:=h.cell h0;exact ⟨b,o,rfl,fun i hi => by rw [World.cell?_of_block (hk.block b hbw (hn h0 _ rfl))];exact hc i hi⟩
theorem ownsRow_kept {base:Nat} {e:TypeId} {size:Nat} {v:Value} {n:Nat} {xs:List Value} (h:w.ownsRow base e size v n xs) (hk:Kept S w w') (hn:∀ k,v.ownBlock=some k → ¬ S k):w'.ownsRow base e size v n xs:=
 ⟨h.1,h.2.imp id fun ⟨g,cap,cur,h1,h2,h3,h4⟩ => ⟨g,cap,cur,h1,h2,hk.some_ h3 (hn g (by rw [h1];rfl)),h4⟩⟩
def IAt (w:World) (p:Option Addr) (n:Nat) (zs:List Int):Prop:=
 0 < n → ∃ b o,p=some ⟨b,o,none⟩∧b < w.heap.size ∧ ∀ i,i < n → w.cell? ⟨b,o+i,none⟩=some (.int .i64 (zs.getD i 0))
theorem IAt.kept {p:Option Addr} {n:Nat} {zs:List Int} (h:IAt w p n zs) (hk:Kept S w w') (hn:0 < n → ∀ a,p=some a → ¬ S a.block):IAt w' p n zs:=fun h0 => by
 obtain ⟨b,o,rfl,hbw,hc⟩:=h h0;exact ⟨b,o,rfl,Nat.lt_of_lt_of_le hbw hk.size,fun i hi => by rw [World.cell?_of_block (hk.block b hbw (hn h0 _ rfl))];exact hc i hi⟩
theorem iat_of_own {base:Nat} {e:TypeId} {v:Value} {n:Nat} {zs:List Int} (h:w.ownsRow base e 1 v n (zs.map (Value.int .i64))) :
 ∃ p c,v=.slice p n c∧n≤c∧c≤maxLen∧IAt w p n zs∧zs.length=n∧(∀ a,p=some a → base≤a.block∧v.ownBlock=some a.block):=by
 have hl:zs.length=n:=by have:=h.1;simpa using this
 have hlt:=h.lt;have h':=h;rcases h.2 with ⟨rfl,rfl⟩ | ⟨g,cap,cur,rfl,hg,_,h1,h2,_⟩
 ·exact ⟨none,0,rfl,by omega,by omega,fun h => absurd h (by omega),hl,fun a h => by cases h⟩
 ·refine ⟨some ⟨g,0,none⟩,cap,rfl,h1,h2,fun h0 => ⟨g,0,rfl,(hlt g rfl).2,fun i hi => ?_⟩,hl,fun a h => by cases h;exact ⟨hg,rfl⟩⟩
  rw [Nat.zero_add,h'.cellAt i (by omega),List.getElem?_map,List.getElem?_eq_getElem (by omega)]
  simp [List.getD,hl,hi]
theorem own_block {base:Nat} {e:TypeId} {size:Nat} {v:Value} {n:Nat} {xs:List Value} (h:w.ownsRow base e size v n xs) {p:Option Addr} {m c:Nat} (hv:v=.slice p m c):∀ a,p=some a → base≤a.block∧a.block < w.heap.size∧v.ownBlock=some a.block:=fun a ha => by
 subst ha hv;exact ⟨(h.lt _ rfl).1,(h.lt _ rfl).2,rfl⟩
theorem append_ints {P:Program} {w:World} {ops:Array Oper} {rest:List Oper} {o:Oper} {a:Act} {Q:Exit → Act → World → Prop} (hgd:o.guard=none) (s x:Operand) (t:TypeId)
 (ho:o.op=.call { callee:=.builtin .append,args:=#[s,x],argTypes:=#[t,t] })
 (base:Nat) (e:TypeId) (i:TypeInfo) (ht:P.underlying t=some (.slice e)) (hi:P.info? e=some i) (hz:i.zero=some (.int .i64 0)) (hsize:i.size=1) (hby:i.bytes=8)
 (v:Value) (n:Nat) (xs:List Int) (hs:a.eval s=v) (hown:w.ownsRow base e 1 v n (xs.map (Value.int .i64)))
 (p:Option Addr) (m c:Nat) (zs:List Int) (hx:a.eval x=.slice p m c) (hb:IAt w p m zs) (hl:zs.length=m) (hsum:(n+m) * 8≤140737488351232) (hbase:base≤w.heap.size)
 (h:∀ v' w',w'.ownsRow base e 1 v' (n+m) ((xs++zs).map (Value.int .i64)) → w.grownBy w' v.ownBlock → wpList P ops Q rest (a.put o.dst v') w'):wpList P ops Q (o :: rest) a w:=by
 rcases p with _ | ad
 ·have hm:m=0:=by
   rcases Nat.eq_zero_or_pos m with h0 | h0
   ·exact h0
   ·obtain ⟨_,_,he,_⟩:=hb h0
    cases he
  subst hm;obtain rfl:zs=[]:=List.eq_nil_of_length_eq_zero hl
  have hrun:(Builtin.append_ #[t,t] o.type #[v,.slice none 0 c]).run P w=.ok v w:=by
   rcases hown.2 with ⟨rfl,rfl⟩ | ⟨g,cap,cur,rfl,_,_,hnc,_⟩
   ·simp [Builtin.append_,run_underlying ht,sizeOf,typeInfo,hi,Builtin.lenOf,Builtin.firstCells]
   ·simp [Builtin.append_,run_underlying ht,sizeOf,typeInfo,hi,Builtin.lenOf,Builtin.firstCells,hnc,storeCells]
  refine wpList_plain hgd fun K hK => ?_
  unfold Oper.wp;simp [execOp,ho,resolve,invoke,builtin,hs,hx,hrun,Result.andThen];exact hK _ _ (h v w (by simpa using hown) (World.grownBy.refl w _))
 ·refine wpList_append_own w hgd s x t ho base e i (.int .i64 0) 1 8 ht hi hz hsize hby rfl (by decide) v n (xs.map (Value.int .i64)) hs hown ad m c (zs.map (Value.int .i64)) hx (by rw [List.length_map,hl];omega) ?_ (ints_oneCell .i64 _) (by unfold maxLen;omega) (by omega) hbase ?_
  ·intro j u hj
   have hjl:j < m:=by
    have:=(List.getElem?_eq_some_iff.1 hj).1;rw [List.length_map,hl] at this;exact this
   obtain ⟨b,off,he,_,hc⟩:=hb (by omega)
   cases he
   rw [List.getElem?_map,List.getElem?_eq_getElem (by omega)] at hj
   cases hj
   rw [WideShapes.add_plain,hc j hjl];simp [List.getD,List.getElem?_eq_getElem (show j < zs.length by omega)]
  ·intro v' w' h1 h2 _
   rw [← List.map_append] at h1;exact h v' w' h1 h2
end
theorem infoU8:(Tryz.prog.info? 5).map (fun i => (i.zero,i.size,i.bytes))=some (some (.int .u8 0),1,1):=by kernel_rfl
theorem infoI64:(Tryz.prog.info? 3).map (fun i => (i.zero,i.size,i.bytes))=some (some (.int .i64 0),1,8):=by kernel_rfl
end Go.Proofs.YtnpkcneojilmkaaGreatDoor.Byt
end
section
namespace Go.Proofs.YtnpkcneojilmkaaGreatDoor.Block
open Go.ChangeShapes Go.WideShapes Go.ChangeAt Go.RowKit Base Byt Go.Lib
set_option linter.unusedVariables false
structure Sv where
 p:Option Addr
 n:Nat
 c:Nat
 bs:List UInt8
 q:Option Addr
 m:Nat
 d:Nat
 zs:List Int
structure Src (w:World) (g:Nat) (S:Sv) (a t:Nat):Prop where
 blk:w.heap[g]? = some (.cells #[.slice S.p S.n S.c,.int .i64 a,.slice S.q S.m S.d,.int .i64 t] 99 (0,0))
 bat:BAt w S.p S.n S.bs
 len:S.bs.length=S.n
 nc:S.n≤S.c
 cm:S.c≤maxLen
 big:S.n≤140737488351232
 le:a≤S.n
 iat:IAt w S.q S.m S.zs
 zlen:S.zs.length=S.m
 md:S.m≤S.d
 dm:S.d≤maxLen
 turn:0 < S.m → t < S.m
 turn0:S.m=0 → t=0
theorem cells_at {w:World} {g:Nat} {cs:Array Value} {e:TypeId} (h:w.heap[g]? = some (.cells cs e (0,0))) (i:Nat):w.cell? ⟨g,i,none⟩=cs[i]?:=by
 simp [World.cell?,h]
theorem cells_frozen {w:World} {g:Nat} {cs:Array Value} {e:TypeId} (h:w.heap[g]? = some (.cells cs e (0,0))) (i:Nat):w.frozen? ⟨g,i,none⟩=false:=by
 simp [World.frozen?,h]
theorem cells_set {w:World} {g:Nat} {cs:Array Value} {e:TypeId} (h:w.heap[g]? = some (.cells cs e (0,0))) (i:Nat) (v:Value) (hi:i < cs.size):(w.setCell ⟨g,i,none⟩ v).heap[g]? = some (.cells (cs.set i v hi) e (0,0)):=by
 simp only [World.setCell,Array.getElem?_modify,if_true,h];simp [Array.setIfInBounds,hi]
section
variable {w w':World} {g a t:Nat} {S:Sv}
theorem Src.lt (h:Src w g S a t):g < w.heap.size:=(Array.getElem?_eq_some_iff.1 h.blk).1
theorem Src.c0 (h:Src w g S a t):w.cell? ⟨g,0,none⟩=some (.slice S.p S.n S.c):=cells_at h.blk 0
theorem Src.c1 (h:Src w g S a t):w.cell? ⟨g,1,none⟩=some (.int .i64 a):=cells_at h.blk 1
theorem Src.c2 (h:Src w g S a t):w.cell? ⟨g,2,none⟩=some (.slice S.q S.m S.d):=cells_at h.blk 2
theorem Src.c3 (h:Src w g S a t):w.cell? ⟨g,3,none⟩=some (.int .i64 t):=cells_at h.blk 3
theorem Src.offp (h:Src w g S a t):0 < S.n → ∀ x,S.p=some x → x.block≠g:=fun h0 x hx e => by
 obtain ⟨b,o,hp,hc⟩:=h.bat h0;rw [hp] at hx;cases hx;have h1:=hc 0 h0;change b=g at e;subst e;rw [cells_at h.blk] at h1
 match o,h1 with
 | 0,h1 => simp at h1
 | 1,h1 => simp at h1
 | 2,h1 => simp at h1
 | 3,h1 => simp at h1
 | o+4,h1 => simp at h1
theorem Src.kept {T:Nat → Prop} (h:Src w g S a t) (hk:Kept T w w') (hg:¬ T g) (hp:0 < S.n → ∀ x,S.p=some x → ¬ T x.block) (hq:0 < S.m → ∀ x,S.q=some x → ¬ T x.block):Src w' g S a t:=
 ⟨hk.some_ h.blk hg,h.bat.kept hk hp,h.len,h.nc,h.cm,h.big,h.le,h.iat.kept hk hq,h.zlen,h.md,h.dm,h.turn,h.turn0⟩
theorem Src.kept0 (h:Src w g S a t) (hk:Kept noneB w w'):Src w' g S a t:=h.kept hk id (fun _ _ _ => id) (fun _ _ _ => id)
end
def Sv.off (S:Sv) (g:Nat):Prop:=0 < S.m → ∀ x,S.q=some x → x.block≠g
section
variable {w w':World} {g a t:Nat} {S:Sv}
theorem Src.at_ (h:Src w g S a t) (ho:S.off g) (b:Nat) (hb:b≤S.n):Src (w.setCell ⟨g,1,none⟩ (.int .i64 b)) g S b t:=by
 have hk:Kept (oneB g) w (w.setCell ⟨g,1,none⟩ (.int .i64 b)):=(Kept.refl (oneB g) w).setCell (Or.inr (show oneB g g from rfl)) _
 exact ⟨cells_set h.blk 1 _ (by simp),h.bat.kept hk h.offp,h.len,h.nc,h.cm,h.big,hb,h.iat.kept hk ho,h.zlen,h.md,h.dm,h.turn,h.turn0⟩
theorem Src.turn_ (h:Src w g S a t) (ho:S.off g) (b:Nat) (h1:0 < S.m → b < S.m) (h2:S.m=0 → b=0):Src (w.setCell ⟨g,3,none⟩ (.int .i64 b)) g S a b:=by
 have hk:Kept (oneB g) w (w.setCell ⟨g,3,none⟩ (.int .i64 b)):=(Kept.refl (oneB g) w).setCell (Or.inr (show oneB g g from rfl)) _
 exact ⟨cells_set h.blk 3 _ (by simp),h.bat.kept hk h.offp,h.len,h.nc,h.cm,h.big,h.le,h.iat.kept hk ho,h.zlen,h.md,h.dm,h1,h2⟩
end
def leftVal (S:Sv) (a:Nat):Value:=.slice (if S.c=a then S.p else S.p.map (·.add a)) (S.n - a) (S.c - a)
theorem left_any (w:World) (g a t:Nat) (S:Sv) (h:Src w g S a t) :
 Calls Tryz.prog 68 #[.pointer (some ⟨g,0,none⟩)] w fun e w' => e=.returned (leftVal S a)∧Src w' g S a t∧Kept noneB w w':=by
 have h0:=h.c0;have h1:=h.c1;have hm:=h.cm;have hnc:=h.nc;have hle:=h.le;unfold maxLen at hm;have H:=Lib.hid h;unfold leftVal;clear h;obtain ⟨p,n,c,bs,q,m,d,zs⟩:=S
 dsimp only at h0 hm hnc hle ⊢
 by_cases hca:c=a
 ·subst hca
  go_enter Tryz.func68,Tryz.ntmps68
  go_wp2
  go_quiet (fail)
  go_wp2
  go_ret
  exact ⟨rfl,H.out.kept0 ((Kept.refl _ _).drewN _),(Kept.refl _ _).drewN _⟩
 ·go_enter Tryz.func68,Tryz.ntmps68
  go_wp2
  go_quiet (fail)
  go_wp2
  go_ret
  exact ⟨rfl,H.out.kept0 ((Kept.refl _ _).drewN _),(Kept.refl _ _).drewN _⟩
end Go.Proofs.YtnpkcneojilmkaaGreatDoor.Block
end
section
namespace Go.Proofs.YtnpkcneojilmkaaGreatDoor.Block
open Go.ChangeShapes Go.WideShapes Go.ChangeAt Go.RowKit Base Byt Go.Lib
set_option linter.unusedVariables false
theorem chunk_none (w:World) (g a t:Nat) (S:Sv) (h:Src w g S a t) (hm0:S.m=0) (n:Int) :
 Calls Tryz.prog 127 #[.pointer (some ⟨g,0,none⟩),.int .i64 n] w fun e w' => e=.returned (.int .i64 n)∧w=w':=by
 have h2:=h.c2;rw [hm0] at h2;clear h hm0
 go_enter Tryz.func127,Tryz.ntmps127
 go_wp2
 go_ret
 exact ⟨rfl,rfl⟩
def ChunkPost (w:World) (g a:Nat) (S:Sv) (n:Int) (e:Ending) (w':World):Prop:=
 ∃ (k:Int) (t':Nat),e=.returned (.int .i64 k)∧1≤k∧k≤n∧Src w' g S a t'∧Kept (oneB g) w w'
theorem chunkPost_end {w:World} {g a t m:Nat} {S:Sv} {n k:Int} (H:Src w g S a t) (HO:S.off g) (hm:S.m=m) (hm0:0 < m) (h1:1≤k) (h2:k≤n) :
 ChunkPost w g a S n (.returned (.int .i64 k)) (w.setCell ⟨g,3,none⟩ (.int .i64 (((t:Int)+1) % (m:Int)))).drew.drew:=by
 have e:(((t:Int)+1) % (m:Int))=(((t+1) % m:Nat):Int):=by simp
 rw [e];refine ⟨k,(t+1) % m,rfl,h1,h2,?_,?_⟩
 ·exact (H.turn_ HO _ (fun _ => by rw [hm];exact Nat.mod_lt _ hm0) (fun h => by omega)).kept0 (((Kept.refl _ _).drew).drew)
 ·exact (((Kept.refl (oneB g) w).setCell (Or.inr (show oneB g g from rfl)) _).drew).drew
set_option maxHeartbeats 800000 in
theorem chunk_some (w:World) (g a t:Nat) (S:Sv) (h:Src w g S a t) (ho:S.off g) (hm0:0 < S.m) (n:Int) (hn:1≤n) :
 Calls Tryz.prog 127 #[.pointer (some ⟨g,0,none⟩),.int .i64 n] w (ChunkPost w g a S n):=by
 have h2:=h.c2;have h3:=h.c3;have f3:=cells_frozen h.blk 3;obtain ⟨b,o,hq,hb,hc⟩:=h.iat hm0;have ht:=h.turn hm0;have hcell:=hc t ht;have hdm:=h.dm;have hmd:=h.md;unfold maxLen at hdm;obtain ⟨z,hz⟩:∃ z,z=S.zs.getD t 0:=⟨_,rfl⟩;rw [← hz] at hcell;rw [hq] at h2;have H:=Lib.hid h;have HO:=Lib.hid ho;have HM:=Lib.hid hm0;obtain ⟨m,hm⟩:∃ m,S.m=m:=⟨_,rfl⟩;have HMM:=Lib.hid hm;rw [hm] at h2 ht hmd hm0;clear h ho hc hb hz hq hm
 go_enter Tryz.func127,Tryz.ntmps127
 go_wp2
 go_region
 all_goals go_wp2
 all_goals go_region
 all_goals go_wp2
 all_goals go_ret
 all_goals exact chunkPost_end H.out HO.out HMM.out hm0 (by omega) (by omega)
theorem chunk_any (w:World) (g a t:Nat) (S:Sv) (h:Src w g S a t) (ho:S.off g) (n:Int) (hn:1≤n) :
 Calls Tryz.prog 127 #[.pointer (some ⟨g,0,none⟩),.int .i64 n] w (ChunkPost w g a S n):=by
 rcases Nat.eq_zero_or_pos S.m with h0 | h0
 ·refine (chunk_none w g a t S h h0 n).mono ?_
  rintro e w' ⟨rfl,rfl⟩;exact ⟨n,t,rfl,hn,Int.le_refl _,h,Kept.refl _ _⟩
 ·exact chunk_some w g a t S h ho h0 n hn
def PiecePost (w:World) (g a:Nat) (S:Sv) (n:Int) (e:Ending) (w':World):Prop:=
 ∃ (p:Option Addr) (k c t':Nat),e=.returned (.slice p k c)∧a+k≤S.n∧(k:Int)≤n∧(a < S.n → 0 < k)∧k≤c∧BAt w' p k ((S.bs.drop a).take k)∧Src w' g S (a+k) t'∧Kept (oneB g) w w'
theorem left_bat {w:World} {g a t:Nat} {S:Sv} (h:Src w g S a t):∃ p,leftVal S a=.slice p (S.n - a) (S.c - a)∧BAt w p (S.n - a) (S.bs.drop a)∧(0 < S.n - a → ∀ x,p=some x → x.block≠g):=
 ⟨_,rfl,h.bat.drop h.le h.nc h.len,fun h0 x hx => by
  rw [if_neg (by have:=h.nc;omega)] at hx
  obtain ⟨y,hy,rfl⟩:=Option.map_eq_some_iff.1 hx;have:=h.offp (by omega) y hy
  unfold Addr.add
  split<;>exact this⟩
set_option maxHeartbeats 800000 in
theorem piece_any (w:World) (g a t:Nat) (S:Sv) (h:Src w g S a t) (ho:S.off g) (n:Int) (hn:1≤n) :
 Calls Tryz.prog 100 #[.pointer (some ⟨g,0,none⟩),.int .i64 n] w (PiecePost w g a S n):=by
 have hle:=h.le;have hnc:=h.nc;have hcm:=h.cm;unfold maxLen at hcm;obtain ⟨l,hl⟩:∃ l,l=S.n - a:=⟨_,rfl⟩;obtain ⟨d,hd⟩:∃ d,d=S.c - a:=⟨_,rfl⟩;have hld:l≤d:=by omega
 have hdm:d≤9223372036854775807:=by omega
 have hlm:a+l≤9223372036854775807:=by omega
 have HL:=Lib.hid hl;have HD:=Lib.hid hd;have H:=Lib.hid h;have HO:=Lib.hid ho;have HLE:=Lib.hid hle;clear h ho hl hd hle hnc hcm
 go_enter Tryz.func100,Tryz.ntmps100
 go_wp2_with fail
 refine (left_any _ g a t S H.out).mono ?_
 rintro e w1 ⟨rfl,hs1,hk1⟩;obtain ⟨p,hp,hb1,hoff⟩:=left_bat hs1;have HOFF:=Lib.hid hoff;rw [hp,← HL.out,← HD.out];rw [← HL.out] at hb1;have HS1:=Lib.hid hs1;have HK1:=Lib.hid hk1;have HB1:=Lib.hid hb1;clear hs1 hk1 hb1 hp hoff
 go_wp2_with fail
 refine (chunk_any _ g a t S HS1.out HO.out n hn).mono ?_
 rintro e w2 ⟨k,t2,rfl,hk,hkn,hs2,hk2⟩;have c1:=hs2.c1;have f1:=cells_frozen hs2.blk 1;have HS2:=Lib.hid hs2;have HK2:=Lib.hid hk2;clear hs2 hk2;obtain ⟨m,rfl⟩:∃ m:Nat,k=m:=⟨k.toNat,by omega⟩
 have fin:∀ j:Nat,1≤m → j≤l → (j:Int)≤n → (0 < l → 0 < j) → PiecePost w g a S n (.returned (.slice p j d)) (w2.setCell ⟨g,1,none⟩ (.int .i64 ((a:Int)+(j:Int)))):=by
  intro j _ hj hjn hj0;have e:((a:Int)+(j:Int))=((a+j:Nat):Int):=by simp
  rw [e];have hoff:0 < j → ∀ x,p=some x → x.block≠g:=fun h0 => HOFF.out (by have:=HL.out;omega)
  have HLo:=HL.out;have hb2:=(HB1.out.take hj).kept HK2.out hoff;have hk3:Kept (oneB g) w2 (w2.setCell ⟨g,1,none⟩ (.int .i64 ((a+j:Nat):Int))):=(Kept.refl (oneB g) w2).setCell (Or.inr (show oneB g g from rfl)) _
  refine ⟨p,j,d,t2,rfl,?_,hjn,fun h0 => hj0 (by omega),by omega,hb2.kept hk3 hoff,HS2.out.at_ HO.out _ ?_,((HK1.out.of_none _).trans HK2.out).trans hk3⟩
  ·have:=HLE.out;omega
  ·have:=HLE.out;omega
 have FIN:=Lib.hid fin;clear fin
 go_wp2
 all_goals go_ret
 ·exact FIN.out l (by omega) (Nat.le_refl _) (by omega) (fun h => h)
 ·exact FIN.out m (by omega) (by omega) (by omega) (by omega)
end Go.Proofs.YtnpkcneojilmkaaGreatDoor.Block
end
section
namespace Go.Proofs.YtnpkcneojilmkaaGreatDoor.Block
open Go.ChangeShapes Go.WideShapes Go.ChangeAt Go.RowKit Base Byt Go.Lib
set_option linter.unusedVariables false
def lenV:Value → Nat | .slice _ n _ => n | _ => 0
def OwnB (w:World) (B:Nat) (v:Value) (n:Nat) (bs:List UInt8):Prop:=w.ownsRow B 5 1 v n ((nums bs).map (Value.int .u8))
theorem OwnB.kept {T:Nat → Prop} {w w':World} {B:Nat} {v:Value} {n:Nat} {bs:List UInt8} (h:OwnB w B v n bs) (hk:Kept T w w') (hn:∀ k,v.ownBlock=some k → ¬ T k):OwnB w' B v n bs:=ownsRow_kept h hk hn
theorem OwnB.slice {w:World} {B:Nat} {v:Value} {n:Nat} {bs:List UInt8} (h:OwnB w B v n bs):∃ p c,v=.slice p n c∧n≤c∧c≤maxLen∧BAt w p n bs∧bs.length=n ∧ ∀ x,p=some x → B≤x.block∧x.block < w.heap.size∧v.ownBlock=some x.block:=by
 obtain ⟨p,c,hv,h1,h2,h3,h4⟩:=bat_of_own h (nums_bd bs);rw [bytesOf_nums] at h3 h4;exact ⟨p,c,hv,h1,h2,h3,h4,own_block h hv⟩
theorem OwnB.lt {w:World} {B:Nat} {v:Value} {n:Nat} {bs:List UInt8} (h:OwnB w B v n bs):∀ k,v.ownBlock=some k → B≤k∧k < w.heap.size:=World.ownsRow.lt h
theorem OwnB.mono {w:World} {B B':Nat} {v:Value} {n:Nat} {bs:List UInt8} (h:OwnB w B v n bs) (hb:B'≤B):OwnB w B' v n bs:=
 ⟨h.1,h.2.imp id fun ⟨g,cap,cur,h1,h2,h3⟩ => ⟨g,cap,cur,h1,Nat.le_trans hb h2,h3⟩⟩
theorem Src.since {w0 w w':World} {g a0 t0 a t:Nat} {S:Sv} (h0:Src w0 g S a0 t0) (h:Src w g S a t) {T:Nat → Prop} (hk:Kept T w w') (hT:∀ k,T k → w0.heap.size≤k):Src w' g S a t:=
 h.kept hk (fun hh => by have:=hT g hh;have:=h0.lt;omega)
  (fun hn x hx hh => by
   obtain ⟨b,o,hp,hb,_⟩:=h0.bat.cell hn;rw [hp] at hx;cases hx;have:=hT b hh
   omega)
  (fun hn x hx hh => by
   obtain ⟨b,o,hp,hb,_⟩:=h0.iat hn;rw [hp] at hx;cases hx;have:=hT b hh
   omega)
def ReadPost (w:World) (g a:Nat) (S:Sv) (N:Nat) (e:Ending) (w':World):Prop:=
 (a+N≤S.n ∧ ∃ v,e=.returned (.tuple #[v,.int .i64 0])∧OwnB w' w.heap.size v N ((S.bs.drop a).take N)∧(∃ t',Src w' g S (a+N) t')∧Kept (oneB g) w w') ∨
 (S.n < a+N∧e=.returned (.tuple #[.slice none 0 0,.int .i64 2])∧(∃ t',Src w' g S S.n t')∧Kept (oneB g) w w')
structure RInv (w:World) (g a:Nat) (S:Sv) (L N j:Nat) (v:Value) (wr:World):Prop where
 own:OwnB wr w.heap.size v j ((S.bs.drop a).take j)
 src:∃ t',Src wr g S (a+j) t'
 kept:Kept (oneB g) w wr
 jn:j≤N
 jl:j≤L
set_option maxHeartbeats 1600000 in
theorem srcRead_any (w:World) (g a t:Nat) (S:Sv) (h:Src w g S a t) (ho:S.off g) (N:Nat) (hN:N≤9223372036854775807) :
 Calls Tryz.prog 69 #[.pointer (some ⟨g,0,none⟩),.int .i64 (N:Int)] w (ReadPost w g a S N):=by
 obtain ⟨i0,hi,hz0,hz1,hz2⟩:=info_parts infoU8;obtain ⟨L,hL⟩:∃ L,L=S.n - a:=⟨_,rfl⟩
 obtain ⟨C,hC1,hC2⟩:∃ C:Nat,(if (L:Int) < (N:Int) then (L:Int) else (N:Int))=(C:Int)∧C≤L:=by
  by_cases h:(L:Int) < (N:Int)
  ·exact ⟨L,if_pos h,Nat.le_refl _⟩
  ·exact ⟨N,if_neg h,by omega⟩
 have hC3:(if L < N then (L:Int) else (N:Int))=(C:Int):=by
  rw [← hC1]
  by_cases h:L < N
  ·rw [if_pos h,if_pos (by omega)]
  ·rw [if_neg h,if_neg (by omega)]
 have HI:=Lib.hid hi;have HZ0:=Lib.hid hz0;have HZ1:=Lib.hid hz1;have HZ2:=Lib.hid hz2;have HL:=Lib.hid hL;have HCL:=Lib.hid hC2;have H:=Lib.hid h;have HO:=Lib.hid ho;clear hi hz0 hz1 hz2 hL hC2 h ho
 go_enter Tryz.func69,Tryz.ntmps69
 go_wp2_with fail
 refine (left_any _ g a t S H.out).mono ?_
 rintro e w1 ⟨rfl,hs1,hk1⟩;obtain ⟨p,hp,hb1,hoff⟩:=left_bat hs1;rw [hp,← HL.out];have HS1:=Lib.hid hs1;have HK1:=Lib.hid hk1;clear hs1 hk1 hb1 hp hoff
 go_wp2_with (at_make;refine wpList_make_own _ rfl _ _ 24 rfl w1.heap.size 5 i0 (.int .u8 0) 1 Tryz.underlying24 HI.out HZ0.out HZ1.out .i64 .i64 (C:Int) C rfl rfl rfl ?b1 ?b2 (Nat.le_refl _) ?_)
 case b1 => rw [HZ2.out];have:=HS1.out.big;have:=HL.out;have:=HCL.out;omega
 case b2 => unfold maxLen;have:=HS1.out.big;have:=HL.out;have:=HCL.out;omega
 intro w2 hown hgrow;have hk2:Kept (oneB g) w w2:=(HK1.out.of_none _).grown hgrow (by intro k hk;cases hk)
 have HR:RInv w g a S L N 0 (.slice (some ⟨w1.heap.size,0,none⟩) 0 C) w2:=⟨OwnB.mono (bs:=[]) hown HK1.out.size,⟨t,by
  have:=H.out.since HS1.out (T:=noneB) ((Kept.refl noneB w1).grown hgrow (by intro k hk;cases hk)) (fun _ h => h.elim)
  simpa using this⟩,hk2,Nat.zero_le _,Nat.zero_le _⟩
 have HRH:=Lib.hid HR;clear hown hgrow hk2 HR hC1 hC3
 go_wp2
 go_loopw [6] (fun v wr => ∃ (j:Nat) (p:Option Addr) (c:Nat),j≤N∧v=.slice p j c∧Hid (RInv w g a S L N j v wr)) (fun v _ => N - lenV v)
 case atStart => exact ⟨0,_,C,Nat.zero_le _,rfl,HRH⟩
 case round =>
  obtain ⟨j,p,c,hjN,rfl,HRI⟩:=hrel;obtain ⟨t3,hs3⟩:=HRI.out.src;have HS3:=Lib.hid hs3;clear hs3
  by_cases hlt:j < N
  ·go_wp2_with fail
   refine (piece_any _ g (a+j) t3 S HS3.out HO.out ((N:Int) - (j:Int)) (by omega)).mono ?_
   rintro e w4 ⟨p',k,c',t4,rfl,hk1,hk2,hk3,hk4,hb,hs4,hkk⟩;have hkn:j+k≤N:=by omega
   have HB:=Lib.hid hb;have HS4:=Lib.hid hs4;have HKK:=Lib.hid hkk;have HK1':=Lib.hid hk1;have HK3':=Lib.hid hk3;clear hb hs4 hkk hk1 hk3
   by_cases hk0:k=0
   ·subst hk0
    have E:Hid (a+j=S.n):=Lib.hid (by have:=HK1'.out;have:=HK3'.out;omega)
    go_wp2
    go_ret2
    exact Or.inr ⟨by have:=E.out;omega,rfl,⟨t4,by have:=HS4.out;rw [← E.out];simpa using this⟩,HRI.out.kept.trans HKK.out⟩
   ·have hko:((k:Int) == 0)=false:=by simpa using hk0
    have own4:OwnB w4 w.heap.size (.slice p j c) j ((S.bs.drop a).take j):=HRI.out.own.kept HKK.out (fun x hx hg => by
     have:=HRI.out.own.lt x hx;have:=H.out.lt;have:x=g:=hg
     omega)
    have OWN4:=Lib.hid own4;clear own4
    go_wp2_with (at_builtin;refine append_bytes rfl _ _ 24 rfl w.heap.size 5 i0 Tryz.underlying24 HI.out HZ0.out HZ1.out HZ2.out _ j _ rfl OWN4.out p' k c' _ rfl HB.out ?d1 ?d2 ?d3 ?_)
    case d1 => have:=HK1'.out;rw [List.length_take,List.length_drop,H.out.len];omega
    case d2 => have:=HK1'.out;have:=H.out.big;omega
    case d3 => exact (HRI.out.kept.trans HKK.out).size
    intro v' w5 hown5 hgrow5
    have R5:Hid (RInv w g a S L N (j+k) v' w5):=Lib.hid (by
     refine ⟨?_,⟨t4,?_⟩,?_,hkn,?_⟩
     ·unfold OwnB
      have e:(S.bs.drop a).take (j+k)=(S.bs.drop a).take j++((S.bs.drop (a+j)).take k):=by
       rw [List.take_add,List.drop_drop]
      rw [e];unfold nums at hown5 ⊢;rw [List.map_append,List.map_append];exact hown5
     ·have:=H.out.since HS4.out (T:=fun x => some x=(Value.slice p j c).ownBlock) ((Kept.refl _ w4).grown hgrow5 (fun x hx => Or.inr hx.symm)) (fun x hx => (OWN4.out.lt x hx.symm).1)
      rw [← Nat.add_assoc];exact this
     ·exact (HRI.out.kept.trans HKK.out).grown hgrow5 (fun x hx => Or.inl (OWN4.out.lt x hx).1)
     ·have:=HK1'.out;have:=HL.out;have:=H.out.le;omega)
    obtain ⟨p5,c5,hv5,hrest⟩:=(show OwnB w5 w.heap.size v' (j+k) _ from R5.out.own).slice
    clear hrest hown5 hgrow5;subst hv5
    go_wp2
    go_roundw
    case rel => exact ⟨j+k,_,c5,hkn,rfl,R5⟩
    case measure => simp [lenV];omega
  ·obtain rfl:j=N:=by omega
   go_wp2
   go_ret2
   exact Or.inl ⟨by have:=HRI.out.jl;have:=HL.out;have:=H.out.le;omega,_,rfl,HRI.out.own,⟨t3,HS3.out⟩,HRI.out.kept⟩
end Go.Proofs.YtnpkcneojilmkaaGreatDoor.Block
end
section
namespace Go.Proofs.YtnpkcneojilmkaaGreatDoor.Mp
open Go.ChangeShapes Go.WideShapes Go.ChangeAt Go.RowKit Base Byt Go.Lib
set_option linter.unusedVariables false
def stillN (n:Nat) (listed:Array Bool):Nat:=((List.range n).filter fun i => !listed.getD i true).length
theorem listed_get {listed:Array Bool} {i:Nat} (hi:i < listed.size) (j:Nat) (d:Bool):(listed.setIfInBounds i true).getD j d=if j=i then true else listed.getD j d:=by
 by_cases h:j=i
 ·subst h;simp [hi]
 ·simp [h,Array.getElem?_setIfInBounds_ne (Ne.symm h)]
theorem lt_of_unlisted {listed:Array Bool} {i:Nat} (h:listed.getD i true=false):i < listed.size:=by
 rcases Nat.lt_or_ge i listed.size with h' | h'
 ·exact h'
 ·simp [Array.getElem?_eq_none h'] at h
theorem wpAny_inv {P:Program} {md:Region.Mode} {ops:Array Oper} {Q:Exit → Act → World → Prop} (I:Array Bool → Act → World → Prop)
 (hstep:∀ listed a w i,I listed a w → i ∈ Region.ready md ops listed → wpOp P ops Q i (I (listed.setIfInBounds i true)) a w)
 (hdone:∀ listed a w,I listed a w → Region.ready md ops listed=[] → Q .normal a w) :
 ∀ (fuel:Nat) (listed:Array Bool) (a:Act) (w:World),stillN ops.size listed≤fuel → I listed a w → wpAny P md ops Q fuel listed a w:=by
 intro fuel
 induction fuel with
 | zero =>
   intro listed a w hn hI
   have hr:Region.ready md ops listed=[]:=by
    rw [List.eq_nil_iff_forall_not_mem];intro i hi;have h1:=mem_ready.1 hi;obtain ⟨o,ho,_⟩:=h1.2;have h2:i ∈ (List.range ops.size).filter fun i => !listed.getD i true:=List.mem_filter.2 ⟨List.mem_range.2 (Array.getElem?_eq_some_iff.1 ho).1,by rw [h1.1];rfl⟩
    have h3:(List.range ops.size).filter (fun i => !listed.getD i true)=[]:=List.eq_nil_of_length_eq_zero (by simpa [stillN] using hn)
    rw [h3] at h2
    cases h2
   exact ⟨hr,hdone _ _ _ hI hr⟩
 | succ fuel ih =>
   intro listed a w hn hI;refine ⟨fun hr => hdone _ _ _ hI hr,fun i hi => ?_⟩
   refine wpOp_mono (fun a' w' h => ih _ _ _ ?_ h) (hstep _ _ _ _ hI hi)
   have h1:=mem_ready.1 hi;obtain ⟨o,ho,_⟩:=h1.2;have hlt:=lt_of_unlisted h1.1
   have h2:stillN ops.size (listed.setIfInBounds i true) < stillN ops.size listed:=by
    unfold stillN;refine filter_lt _ _ (fun x hx => ?_) i (by rw [h1.1];rfl) (by rw [listed_get hlt,if_pos rfl];rfl) _ (List.mem_range.2 (Array.getElem?_eq_some_iff.1 ho).1)
    rw [listed_get hlt] at hx
    split at hx
    ·cases hx
    ·exact hx
   omega
theorem all_listed {md:Region.Mode} {ops:Array Oper} {listed:Array Bool} (hs:listed.size=ops.size) (hd:∀ i o,ops[i]? = some o → ∀ e ∈ o.after,Region.binds md e=true → e.on < i) (hr:Region.ready md ops listed=[]) :
 ∀ n i,i < n → i < ops.size → listed.getD i false=true:=by
 intro n
 induction n with
 | zero => intro i h;omega
 | succ n ih =>
   intro i h hi
   by_cases hin:i < n
   ·exact ih i hin hi
   ·obtain rfl:i=n:=by omega
    cases hl:listed.getD i false with
    | true => rfl
    | false =>
      have h1:listed.getD i true=false:=by
       simp only [Array.getD_eq_getD_getElem?] at hl ⊢;rw [Array.getElem?_eq_getElem (by omega)] at hl ⊢
       exact hl
      have:i ∈ Region.ready md ops listed:=mem_ready.2 ⟨h1,ops[i],Array.getElem?_eq_getElem hi,fun e he hb => ih e.on (hd i _ (Array.getElem?_eq_getElem hi) e he hb) (by
       have:=hd i _ (Array.getElem?_eq_getElem hi) e he hb
       omega)⟩
      rw [hr] at this
      cases this
theorem put_eval {a:Act} {d t:Nat} (v:Value) (hd:d < a.tmps.size):(a.put (some d) v).eval (.tmp t)=if t=d then v else a.eval (.tmp t):=by
 show ((a.tmps.setIfInBounds d v).getD t undef)=_
 by_cases h:t=d
 ·subst h;simp [hd]
 ·rw [if_neg h]
  show _=a.tmps.getD t undef;simp [Array.getElem?_setIfInBounds_ne (Ne.symm h)]
theorem put_size (a:Act) (d:Option Nat) (v:Value):(a.put d v).tmps.size=a.tmps.size:=by
 cases d<;>simp [Act.put]
theorem put_defers (a:Act) (d:Option Nat) (v:Value):(a.put d v).defers=a.defers:=by
 cases d<;>rfl
theorem evalC (a:Act) (v:Value):a.eval (.const v)=v:=rfl
theorem getD_flip {listed:Array Bool} {i:Nat} (h:listed.getD i true=false):listed.getD i false=false:=by
 have:=lt_of_unlisted h;simp only [Array.getD_eq_getD_getElem?] at h ⊢;rw [Array.getElem?_eq_getElem this] at h ⊢;exact h
end Go.Proofs.YtnpkcneojilmkaaGreatDoor.Mp
end
section
namespace Go.Proofs.YtnpkcneojilmkaaGreatDoor.Mp
open Go.ChangeShapes Go.WideShapes Go.ChangeAt Go.RowKit Base Byt
set_option linter.unusedVariables false
structure RI (ops:Array Oper) (V:Nat → Value) (a0:Act) (W:Array Bool → World → Prop) (listed:Array Bool) (a:Act) (w:World):Prop where
 ls:listed.size=ops.size
 ts:a.tmps.size=a0.tmps.size
 df:a.defers=a0.defers
 done:∀ j o d,ops[j]? = some o → o.dst=some d → listed.getD j false=true → a.eval (.tmp d)=V j
 same:∀ t,(∀ j o,ops[j]? = some o → o.dst=some t → listed.getD j false=false) → a.eval (.tmp t)=a0.eval (.tmp t)
 wd:W listed w
def apartB (ops:Array Oper) (n:Nat):Bool:=
 (ops.toList.zipIdx.all fun x => x.1.guard.isNone && (x.1.after.all fun e => decide (e.on < x.2)) && (match x.1.dst with
  | none => true
  | some d => decide (d < n) && ops.toList.zipIdx.all fun y => y.2 == x.2 || y.1.dst != some d))
theorem apartB_spec {ops:Array Oper} {n:Nat} (h:apartB ops n=true):∀ i o,ops[i]? = some o →
 o.guard=none∧(∀ e ∈ o.after,Region.binds .any e=true → e.on < i)∧(∀ d,o.dst=some d → d < n ∧ ∀ j oj,ops[j]? = some oj → oj.dst=some d → j=i):=by
 intro i o ho;unfold apartB at h;rw [List.all_eq_true] at h
 have hm:∀ (j:Nat) (oj:Oper),ops[j]? = some oj → (oj,j) ∈ ops.toList.zipIdx:=fun j oj hj => by
  rw [List.mem_iff_getElem?];exact ⟨j,by simp [hj]⟩
 have h1:=h (o,i) (hm i o ho);simp only [Bool.and_eq_true] at h1;obtain ⟨⟨h2,h3⟩,h4⟩:=h1;refine ⟨by simpa using h2,fun e he _ => by simpa using Array.all_eq_true_iff_forall_mem.1 h3 e he,fun d hd => ?_⟩
 rw [hd] at h4;simp only [Bool.and_eq_true,decide_eq_true_eq] at h4;refine ⟨h4.1,fun j oj hj hdj => ?_⟩
 have h5:=List.all_eq_true.1 h4.2 (oj,j) (hm j oj hj);simp only [Bool.or_eq_true,beq_iff_eq,bne_iff_ne] at h5;rcases h5 with h5 | h5
 ·exact h5
 ·exact absurd hdj h5
theorem wpAny_vals {P:Program} {ops:Array Oper} {Q:Exit → Act → World → Prop} (V:Nat → Value) (a0:Act) (W:Array Bool → World → Prop) (n:Nat) (hap:apartB ops n=true) (hn:n≤a0.tmps.size)
 (hstep:∀ listed a w j o,RI ops V a0 W listed a w → ops[j]? = some o → listed.getD j true=false → (∀ e ∈ o.after,Region.binds .any e=true → listed.getD e.on false=true) →
  Oper.wp P o a w (fun a' w' => a'=a.put o.dst (V j)∧W (listed.setIfInBounds j true) w') Q)
 (hdone:∀ listed a w,RI ops V a0 W listed a w → (∀ j,j < ops.size → listed.getD j false=true) → Q .normal a w)
 {w:World} (h0:W (Array.replicate ops.size false) w):wpAny P .any ops Q ops.size (Array.replicate ops.size false) a0 w:=by
 have sp:=apartB_spec hap
 have no:∀ j,(Array.replicate ops.size false).getD j false=false:=fun j => by
  rw [Array.getD_eq_getD_getElem?,Array.getElem?_replicate]
  split<;>rfl
 refine wpAny_inv (RI ops V a0 W) (fun listed a w' i h hr => ?_) (fun listed a' w' h hr => ?_) _ _ _ _ ?_ ?_
 ·obtain ⟨hun,o,ho,hdep⟩:=mem_ready.1 hr
  have hlt:=lt_of_unlisted hun;obtain ⟨hg,_,hd⟩:=sp i o ho;refine wpOp_step ho fun K hK => ?_
  rw [if_pos (by simp [Region.wanted,hg])]
  refine Oper.wp_mono (fun a' w'' hh => hK a' w'' ?_) (hstep listed a w' i o h ho hun hdep)
  obtain ⟨rfl,hw⟩:=hh;refine ⟨by simpa using h.ls,by rw [put_size];exact h.ts,by rw [put_defers];exact h.df,fun j oj d hj hdj hl => ?_,fun t ht => ?_,hw⟩
  ·cases hod:o.dst with
   | none =>
     have hji:j≠i:=fun e => by
      subst e;rw [ho] at hj
      cases hj
      rw [hod] at hdj
      cases hdj
     rw [listed_get hlt,if_neg hji] at hl;exact h.done j oj d hj hdj hl
   | some d' =>
     obtain ⟨hdn,huni⟩:=hd d' hod;have hsz:d' < a.tmps.size:=by rw [h.ts];exact Nat.lt_of_lt_of_le hdn hn
     rw [put_eval _ hsz]
     by_cases hdd:d=d'
     ·have:=huni j oj hj (by rw [← hdd];exact hdj)
      rw [if_pos hdd,this]
     ·rw [if_neg hdd]
      have hji:j≠i:=fun e => by
       subst e;rw [ho] at hj
       cases hj
       rw [hod] at hdj;exact hdd (Option.some.inj hdj).symm
      rw [listed_get hlt,if_neg hji] at hl;exact h.done j oj d hj hdj hl
  ·have hti:o.dst≠some t:=fun e => by
    have:=ht i o ho e;rw [listed_get hlt,if_pos rfl] at this
    cases this
   have hold:a.eval (.tmp t)=a0.eval (.tmp t):=h.same t fun j oj hj hdj => by
    have h1:=ht j oj hj hdj;rw [listed_get hlt] at h1
    split at h1
    ·cases h1
    ·exact h1
   cases hod:o.dst with
   | none => exact hold
   | some d' =>
     obtain ⟨hdn,_⟩:=hd d' hod;rw [put_eval _ (by rw [h.ts];exact Nat.lt_of_lt_of_le hdn hn),if_neg (fun e => hti (by rw [hod,e]))]
     exact hold
 ·exact hdone _ _ _ h fun j hj => all_listed h.ls (fun i o ho => (sp i o ho).2.1) hr (j+1) j (by omega) hj
 ·unfold stillN
  exact Nat.le_trans (List.length_filter_le _ _) (by rw [List.length_range];exact Nat.le_refl _)
 ·exact ⟨Array.size_replicate,rfl,rfl,fun j o d _ _ hl => (by rw [no] at hl;cases hl),fun t _ => rfl,h0⟩
def hasDep (ops:Array Oper) (j i:Nat):Bool:=((ops[j]?).map fun o => o.after.any fun e => e.on == i && Region.binds .any e).getD false
def freeB (ops:Array Oper) (t:Nat):Bool:=ops.toList.all fun o => o.dst != some t
section
variable {ops:Array Oper} {V:Nat → Value} {a0 a:Act} {W:Array Bool → World → Prop} {listed:Array Bool} {w:World}
theorem RI.get (h:RI ops V a0 W listed a w) {j i d:Nat} {o:Oper} (ho:ops[j]? = some o) (hdep:∀ e ∈ o.after,Region.binds .any e=true → listed.getD e.on false=true) (hd:hasDep ops j i=true) (hdst:(ops[i]?).bind (·.dst)=some d):a.eval (.tmp d)=V i:=by
 unfold hasDep at hd;rw [ho] at hd;obtain ⟨e,he,hb⟩:=Array.any_eq_true'.1 (show o.after.any _=true from hd)
 simp only [Bool.and_eq_true,beq_iff_eq] at hb;have hl:=hdep e he hb.2;rw [hb.1] at hl
 cases hoi:ops[i]? with
 | none => rw [hoi] at hdst;cases hdst
 | some oi =>
   rw [hoi] at hdst;exact h.done i oi d hoi hdst hl
theorem RI.old (h:RI ops V a0 W listed a w) {t:Nat} (hf:freeB ops t=true):a.eval (.tmp t)=a0.eval (.tmp t):=
 h.same t fun j o ho hd => by
  unfold freeB at hf;rw [List.all_eq_true] at hf;have:=hf o (by rw [Array.mem_toList_iff];exact Array.mem_of_getElem? ho)
  rw [hd] at this;simp at this
end
def regionsOf:Code → List (Nat × Array Oper)
 | .region id ops _ => [(id,ops)]
 | .seq a b => regionsOf a++regionsOf b
 | .cond _ a b => regionsOf a++regionsOf b
 | .block _ c => regionsOf c
 | .loop c => regionsOf c
 | _ => []
def regionAt (f:Func) (id:Nat):Array Oper:=
 match f.body with
 | some c => (((regionsOf c).find? fun x => x.1 == id).map (·.2)).getD #[]
 | none => #[]
section
variable {P:Program} {o:Oper} {a:Act} {w:World} {K:Act → World → Prop} {Q:Exit → Act → World → Prop}
theorem wp_move (x:Operand) (v:Value) (ho:o.op=.move x ∨ o.op=.assign x) (hx:a.eval x=v) (h:K (a.put o.dst v) w):Oper.wp P o a w K Q:=by
 unfold Oper.wp;rcases ho with ho | ho
 ·simp [execOp,ho,hx,Oper.upon_value];exact h
 ·simp [execOp,ho,hx,Oper.upon_value];exact h
theorem wp_run (v:Value) (hr:(execOp a.eval o).run P w=.ok (.value v) w) (h:K (a.put o.dst v) w):Oper.wp P o a w K Q:=by
 unfold Oper.wp;rw [hr,Oper.upon_value];exact h
theorem wp_look (t:TypeId) (m x:Operand) (ho:o.op=.lookup t m x false) (mv xv v:Value) (hm:a.eval m=mv) (hx:a.eval x=xv) (hr:(Instr.lookup t mv xv false).run P w=.ok v w) (h:K (a.put o.dst v) w):Oper.wp P o a w K Q:=by
 unfold Oper.wp;simp [execOp,ho,hm,hx,hr,Result.andThen,Oper.upon_value];exact h
theorem evalF (a:Act) (f:FuncId):a.eval (.func f)=.func (.func f) #[] #[]:=rfl
theorem wp_call (f:FuncId) (xs:Array Operand) (ts:Array TypeId) (ho:o.op=.call { callee:=.value (.func f),args:=xs,argTypes:=ts }) (vs:Array Value) (hx:xs.map a.eval=vs)
 (hf:∀ args w,(callFunc f args).run P w=.ok (.enter f args) w) (v:Value) (R:World → Prop) (hc:Calls P f vs w fun e w' => e=.returned v∧R w') (h:∀ w',R w' → K (a.put o.dst v) w'):Oper.wp P o a w K Q:=by
 unfold Oper.wp;simp [execOp,ho,resolve,invoke,hx,evalF,Deferred.ofValue,hf,Oper.upon];refine hc.mono fun e w' he => ?_
 obtain ⟨rfl,hR⟩:=he;exact h w' hR
end
end Go.Proofs.YtnpkcneojilmkaaGreatDoor.Mp
end
section
namespace Go.Proofs.YtnpkcneojilmkaaGreatDoor.Mp
open Go.ChangeShapes Go.WideShapes Go.ChangeAt Go.RowKit Base Byt
set_option linter.unusedVariables false
def apartG (ops:Array Oper) (n:Nat):Bool:=
 (ops.toList.zipIdx.all fun x => x.1.guard.isNone && (x.1.after.all fun e => decide (e.on < x.2) || !Region.binds .any e) && (match x.1.dst with
  | none => true
  | some d => decide (d < n) && ops.toList.zipIdx.all fun y => y.2 == x.2 || y.1.dst != some d))
theorem apartG_spec {ops:Array Oper} {n:Nat} (h:apartG ops n=true):∀ i o,ops[i]? = some o →
 o.guard=none∧(∀ e ∈ o.after,Region.binds .any e=true → e.on < i)∧(∀ d,o.dst=some d → d < n ∧ ∀ j oj,ops[j]? = some oj → oj.dst=some d → j=i):=by
 intro i o ho;unfold apartG at h;rw [List.all_eq_true] at h
 have hm:∀ (j:Nat) (oj:Oper),ops[j]? = some oj → (oj,j) ∈ ops.toList.zipIdx:=fun j oj hj => by
  rw [List.mem_iff_getElem?];exact ⟨j,by simp [hj]⟩
 have h1:=h (o,i) (hm i o ho);simp only [Bool.and_eq_true] at h1;obtain ⟨⟨h2,h3⟩,h4⟩:=h1;refine ⟨by simpa using h2,fun e he hb => ?_,fun d hd => ?_⟩
 ·have h5:=Array.all_eq_true_iff_forall_mem.1 h3 e he
  rw [hb] at h5
  simpa using h5
 rw [hd] at h4;simp only [Bool.and_eq_true,decide_eq_true_eq] at h4;refine ⟨h4.1,fun j oj hj hdj => ?_⟩
 have h5:=List.all_eq_true.1 h4.2 (oj,j) (hm j oj hj);simp only [Bool.or_eq_true,beq_iff_eq,bne_iff_ne] at h5;rcases h5 with h5 | h5
 ·exact h5
 ·exact absurd hdj h5
theorem RI.next {ops:Array Oper} {V:Nat → Value} {a0 a:Act} {W W':Array Bool → World → Prop} {listed:Array Bool} {w w':World} (n:Nat) (hap:apartG ops n=true) (hn:n≤a0.tmps.size) (h:RI ops V a0 W listed a w)
 {i:Nat} {o:Oper} (ho:ops[i]? = some o) (hun:listed.getD i true=false) (hw:W' (listed.setIfInBounds i true) w'):RI ops V a0 W' (listed.setIfInBounds i true) (a.put o.dst (V i)) w':=by
 have hlt:=lt_of_unlisted hun;obtain ⟨hg,_,hd⟩:=apartG_spec hap i o ho;refine ⟨by simpa using h.ls,by rw [put_size];exact h.ts,by rw [put_defers];exact h.df,fun j oj d hj hdj hl => ?_,fun t ht => ?_,hw⟩
 ·cases hod:o.dst with
  | none =>
    have hji:j≠i:=fun e => by
     subst e;rw [ho] at hj
     cases hj
     rw [hod] at hdj
     cases hdj
    rw [listed_get hlt,if_neg hji] at hl;exact h.done j oj d hj hdj hl
  | some d' =>
    obtain ⟨hdn,huni⟩:=hd d' hod;have hsz:d' < a.tmps.size:=by rw [h.ts];exact Nat.lt_of_lt_of_le hdn hn
    rw [put_eval _ hsz]
    by_cases hdd:d=d'
    ·have:=huni j oj hj (by rw [← hdd];exact hdj)
     rw [if_pos hdd,this]
    ·rw [if_neg hdd]
     have hji:j≠i:=fun e => by
      subst e;rw [ho] at hj
      cases hj
      rw [hod] at hdj;exact hdd (Option.some.inj hdj).symm
     rw [listed_get hlt,if_neg hji] at hl;exact h.done j oj d hj hdj hl
 ·have hti:o.dst≠some t:=fun e => by
   have:=ht i o ho e;rw [listed_get hlt,if_pos rfl] at this
   cases this
  have hold:a.eval (.tmp t)=a0.eval (.tmp t):=h.same t fun j oj hj hdj => by
   have h1:=ht j oj hj hdj;rw [listed_get hlt] at h1
   split at h1
   ·cases h1
   ·exact h1
  cases hod:o.dst with
  | none => exact hold
  | some d' =>
    obtain ⟨hdn,_⟩:=hd d' hod;rw [put_eval _ (by rw [h.ts];exact Nat.lt_of_lt_of_le hdn hn),if_neg (fun e => hti (by rw [hod,e]))]
    exact hold
theorem wpAny_ghost {Γ:Type} {P:Program} {ops:Array Oper} {Q:Exit → Act → World → Prop} (V:Γ → Nat → Value) (γ0:Γ) (a0:Act) (W:Γ → Array Bool → World → Prop) (n:Nat) (hap:apartG ops n=true) (hn:n≤a0.tmps.size)
 (hstep:∀ γ listed a w j o,RI ops (V γ) a0 (W γ) listed a w → ops[j]? = some o → listed.getD j true=false → (∀ e ∈ o.after,Region.binds .any e=true → listed.getD e.on false=true) →
  Oper.wp P o a w (fun a' w' => ∃ γ',(∀ i,listed.getD i false=true → V γ' i=V γ i)∧a'=a.put o.dst (V γ' j)∧W γ' (listed.setIfInBounds j true) w') Q)
 (hdone:∀ γ listed a w,RI ops (V γ) a0 (W γ) listed a w → (∀ j,j < ops.size → listed.getD j false=true) → Q .normal a w)
 {w:World} (h0:W γ0 (Array.replicate ops.size false) w):wpAny P .any ops Q ops.size (Array.replicate ops.size false) a0 w:=by
 have sp:=apartG_spec hap
 have no:∀ j,(Array.replicate ops.size false).getD j false=false:=fun j => by
  rw [Array.getD_eq_getD_getElem?,Array.getElem?_replicate]
  split<;>rfl
 refine wpAny_inv (fun listed a w' => ∃ γ,RI ops (V γ) a0 (W γ) listed a w') (fun listed a w' i h hr => ?_) (fun listed a' w' h hr => ?_) _ _ _ _ ?_ ?_
 ·obtain ⟨γ,h⟩:=h
  obtain ⟨hun,o,ho,hdep⟩:=mem_ready.1 hr;obtain ⟨hg,_,hd⟩:=sp i o ho;refine wpOp_step ho fun K hK => ?_
  rw [if_pos (by simp [Region.wanted,hg])]
  refine Oper.wp_mono (fun a' w'' hh => hK a' w'' ?_) (hstep γ listed a w' i o h ho hun hdep)
  obtain ⟨γ',hag,rfl,hw⟩:=hh;have h':RI ops (V γ') a0 (fun _ _ => True) listed a w':=⟨h.ls,h.ts,h.df,fun j oj d hj hdj hl => (h.done j oj d hj hdj hl).trans (hag j hl).symm,h.same,trivial⟩
  exact ⟨γ',h'.next n hap hn ho hun hw⟩
 ·obtain ⟨γ,h⟩:=h
  exact hdone γ _ _ _ h fun j hj => all_listed h.ls (fun i o ho => (sp i o ho).2.1) hr (j+1) j (by omega) hj
 ·unfold stillN
  exact Nat.le_trans (List.length_filter_le _ _) (by rw [List.length_range];exact Nat.le_refl _)
 ·exact ⟨γ0,Array.size_replicate,rfl,rfl,fun j o d _ _ hl => (by rw [no] at hl;cases hl),fun t _ => rfl,h0⟩
def dstAt (ops:Array Oper) (i:Nat):Option Nat:=(ops[i]?).bind fun o => o.dst
def putAll (ops:Array Oper) (V:Nat → Value) (a0:Act):Nat → Act
 | 0 => a0
 | n+1 => (putAll ops V a0 n).put (dstAt ops n) (V n)
theorem put_none (a:Act) (v:Value):a.put none v=a:=rfl
theorem putAll_size (ops:Array Oper) (V:Nat → Value) (a0:Act):∀ n,(putAll ops V a0 n).tmps.size=a0.tmps.size
 | 0 => rfl
 | n+1 => by rw [putAll,put_size,putAll_size ops V a0 n]
theorem putAll_defers (ops:Array Oper) (V:Nat → Value) (a0:Act):∀ n,(putAll ops V a0 n).defers=a0.defers
 | 0 => rfl
 | n+1 => by rw [putAll,put_defers,putAll_defers ops V a0 n]
theorem put_eval_ne {a:Act} {d:Option Nat} {t:Nat} (v:Value) (h:d≠some t):(a.put d v).eval (.tmp t)=a.eval (.tmp t):=by
 cases d with
 | none => rfl
 | some d =>
   have hne:¬ d=t:=fun e => h (by rw [e])
   show ((a.tmps.setIfInBounds d v).getD t undef)=a.tmps.getD t undef;simp [Array.getElem?_setIfInBounds_ne hne]
theorem putAll_none (ops:Array Oper) (V:Nat → Value) (a0:Act) (t:Nat):∀ n,(∀ j,j < n → dstAt ops j≠some t) → (putAll ops V a0 n).eval (.tmp t)=a0.eval (.tmp t)
 | 0,_ => rfl
 | n+1,h => by
   rw [putAll,put_eval_ne _ (h n (by omega))]
   exact putAll_none ops V a0 t n fun j hj => h j (by omega)
theorem putAll_some {ops:Array Oper} (V:Nat → Value) (a0:Act) {t:Nat} (ht:t < a0.tmps.size) {i:Nat} (hi:dstAt ops i=some t) (hu:∀ j,dstAt ops j=some t → j=i):∀ n,i < n → (putAll ops V a0 n).eval (.tmp t)=V i
 | 0,h => absurd h (by omega)
 | n+1,h => by
   rw [putAll]
   by_cases hn:n=i
   ·subst hn
    rw [hi,put_eval _ (by rw [putAll_size];exact ht),if_pos rfl]
   ·rw [put_eval_ne _ (fun e => hn (hu n e))]
    exact putAll_some V a0 ht hi hu n (by omega)
theorem act_ext {a b:Act} (hs:a.tmps.size=b.tmps.size) (hd:a.defers=b.defers) (h:∀ t,a.eval (.tmp t)=b.eval (.tmp t)):a=b:=by
 obtain ⟨ta,da⟩:=a;obtain ⟨tb,db⟩:=b;obtain rfl:da=db:=hd
 congr 1
 apply Array.ext hs;intro i h1 h2;have:=h i;change ta.getD i undef=tb.getD i undef at this;rw [Array.getD_eq_getD_getElem?,Array.getD_eq_getD_getElem?,Array.getElem?_eq_getElem h1,Array.getElem?_eq_getElem h2] at this;exact this
theorem dep_listed {ops:Array Oper} {listed:Array Bool} {j i:Nat} {o:Oper} (ho:ops[j]? = some o) (hdep:∀ e ∈ o.after,Region.binds .any e=true → listed.getD e.on false=true) (hd:hasDep ops j i=true):listed.getD i false=true:=by
 unfold hasDep at hd;rw [ho] at hd;obtain ⟨e,he,hb⟩:=Array.any_eq_true'.1 (show o.after.any _=true from hd)
 simp only [Bool.and_eq_true,beq_iff_eq] at hb;have hl:=hdep e he hb.2
 rwa [hb.1] at hl
theorem wp_callE {P:Program} {o:Oper} {a:Act} {w:World} {K:Act → World → Prop} {Q:Exit → Act → World → Prop} (f:FuncId) (xs:Array Operand) (ts:Array TypeId) (ho:o.op=.call { callee:=.value (.func f),args:=xs,argTypes:=ts }) (vs:Array Value) (hx:xs.map a.eval=vs)
 (hf:∀ args w,(callFunc f args).run P w=.ok (.enter f args) w) (R:Value → World → Prop) (hc:Calls P f vs w fun e w' => ∃ v,e=.returned v∧R v w') (h:∀ v w',R v w' → K (a.put o.dst v) w'):Oper.wp P o a w K Q:=by
 unfold Oper.wp;simp [execOp,ho,resolve,invoke,hx,evalF,Deferred.ofValue,hf,Oper.upon];refine hc.mono fun e w' he => ?_
 obtain ⟨v,rfl,hR⟩:=he;exact h v w' hR
theorem done_putAllG {ops:Array Oper} {V:Nat → Value} {a0 a:Act} {W:Array Bool → World → Prop} {listed:Array Bool} {w:World} (n:Nat) (hap:apartG ops n=true) (hn:n≤a0.tmps.size) (h:RI ops V a0 W listed a w) (hall:∀ j,j < ops.size → listed.getD j false=true):a=putAll ops V a0 ops.size:=by
 have sp:=apartG_spec hap;refine act_ext (by rw [h.ts,putAll_size]) (by rw [h.df,putAll_defers]) fun t => ?_
 by_cases hex:∃ i,dstAt ops i=some t
 ·obtain ⟨i,hi⟩:=hex
  cases ho:ops[i]? with
  | none => rw [dstAt,ho] at hi;cases hi
  | some o =>
    have hd:o.dst=some t:=by rw [dstAt,ho] at hi;exact hi
    have hlt:=(Array.getElem?_eq_some_iff.1 ho).1;obtain ⟨h1,h2⟩:=(sp i o ho).2.2 t hd
    rw [h.done i o t ho hd (hall i hlt),putAll_some V a0 (Nat.lt_of_lt_of_le h1 hn) hi (fun j hj => by
     cases hoj:ops[j]? with
     | none => rw [dstAt,hoj] at hj;cases hj
     | some oj => exact h2 j oj hoj (by rw [dstAt,hoj] at hj;exact hj)) _ hlt]
 ·rw [putAll_none ops V a0 t _ fun j _ e => hex ⟨j,e⟩]
  exact h.same t fun j o ho hd => absurd ⟨j,by rw [dstAt,ho];exact hd⟩ hex
end Go.Proofs.YtnpkcneojilmkaaGreatDoor.Mp
end
section
namespace Go.Proofs.YtnpkcneojilmkaaGreatDoor.Mk
open Go.ChangeShapes Go.WideShapes Go.ChangeAt Go.RowKit Go.MapKept Base Byt Txt
set_option linter.unusedVariables false
structure Keying (α:Type) where
 enc:α → Value
 kind:TypeDesc
 isKey:∀ a,IsKey kind (enc a)
 inj:∀ a b,enc a=enc b → a=b
 same:∀ a,Instr.sameBits 10000 (enc a) (enc a)=true
def strK:Keying (List UInt8) where
 enc l:=.string (str l)
 kind:=.string
 isKey _:=trivial
 inj a b h:=by injection h with h;exact str_inj h
 same a:=by
  rw [Instr.sameBits]
  simpa using str_beq a a
section
variable {α:Type} (K:Keying α)
def MapK (w:World) (B:Nat) (f:α → Option Value):Prop:=
 ∃ es clock,w.heap[B]? = some (.map es clock)∧Stamped es clock∧(∀ e ∈ es.toList,∃ k,e.key=K.enc k∧f k=some e.val)∧(∀ k v,f k=some v → ∃ e ∈ es.toList,e.key=K.enc k)
variable {K} {w w':World} {B:Nat} {f:α → Option Value}
theorem MapK.lt (h:MapK K w B f):B < w.heap.size:=by
 obtain ⟨es,clock,hb,_⟩:=h;exact (Array.getElem?_eq_some_iff.1 hb).1
theorem MapK.kept {S:Nat → Prop} (h:MapK K w B f) (hk:Kept S w w') (hB:¬ S B):MapK K w' B f:=by
 obtain ⟨es,clock,hb,h⟩:=h;exact ⟨es,clock,hk.some_ hb hB,h⟩
theorem mapK_made (K:Keying α) (w:World):MapK K (w.alloc (.map #[] 0)) w.heap.size (fun _ => none):=
 ⟨#[],0,(MapKept.heap_alloc w _).1,stamped_empty 0,by simp,by simp⟩
theorem kept_block {o o':Obj} (hb:w.heap[B]? = some o):Kept (oneB B) w (Go.ChangeMaps.setBlock w B o'):=
 ⟨rfl,rfl,rfl,by simp [Go.ChangeMaps.setBlock],fun k hk hn => (MapKept.heap_set hb).2 k hn⟩
variable {P:Program} {t k e:TypeId}
theorem MapK.put [DecidableEq α] (h:MapK K w B f) (ht:P.underlying t=some (.map k e)) (hk:P.underlying k=some K.kind) (x:α) (v:Value) :
 ∃ w',(Instr.mapUpdate t (.map (some B)) (K.enc x) v).run P w=.ok () w'∧MapK K w' B (fun y => if y=x then some v else f y)∧Kept (oneB B) w w'∧w'.heap.size=w.heap.size:=by
 obtain ⟨es,clock,hb,hs,h1,h2⟩:=h;rcases findNow_spec (K.isKey x) es.toList 0 (fun y hy => by obtain ⟨j,hj,_⟩:=h1 y hy;rw [hj];exact K.isKey j) with ⟨hfind,hne⟩ | ⟨j,e0,hfind,h3,h4⟩
 ·refine ⟨Go.ChangeMaps.setBlock w B (.map (es.push { key:=K.enc x,val:=v,born:=clock }) (clock+1)),?_,⟨_,_,(MapKept.heap_set hb).1,stamped_push hs hne,?_,?_⟩,kept_block hb,by simp [Go.ChangeMaps.setBlock]⟩
  ·simp [Instr.mapUpdate,run_underlying ht,MapKept.run_getObj_map hb,run_checkKey hk (K.isKey x),run_findKey hk hfind,MapKept.run_setObj_map _ hb,Result.andThen,Go.ChangeMaps.setBlock]
  ·intro y hy
   simp only [Array.toList_push,List.mem_append,List.mem_singleton] at hy;rcases hy with hy | rfl
   ·obtain ⟨j,hj,hf⟩:=h1 y hy
    refine ⟨j,hj,?_⟩;show (if j=x then some v else f j)=_
    rw [if_neg (fun e => hne y hy (by rw [hj,e]))]
    exact hf
   ·exact ⟨x,rfl,by show (if x=x then some v else f x)=_;rw [if_pos rfl]⟩
  ·intro j u hj
   simp only [Array.toList_push,List.mem_append,List.mem_singleton];have hj:(if j=x then some v else f j)=some u:=hj
   by_cases hjx:j=x
   ·exact ⟨_,Or.inr rfl,by rw [hjx]⟩
   ·rw [if_neg hjx] at hj
    obtain ⟨y,hy,hk⟩:=h2 j u hj;exact ⟨y,Or.inl hy,hk⟩
 ·rw [Nat.zero_add] at hfind
  have h3':es[j]? = some e0:=by simpa using h3
  have hkeep:∀ w:World,(Instr.keyThatStays (((es[j]?).map (·.key)).getD (K.enc x)) (K.enc x)).run P w=.ok (K.enc x) w:=fun w => by
   rw [h3'];simp only [Option.map_some,Option.getD_some,h4,Instr.keyThatStays,K.same x,if_true];rfl
  refine ⟨Go.ChangeMaps.setBlock w B (.map (es.modify j fun e => { e with key:=K.enc x,val:=v }) clock),?_,⟨_,_,(MapKept.heap_set hb).1,?_,?_,?_⟩,kept_block hb,by simp [Go.ChangeMaps.setBlock]⟩
  ·simp only [Instr.mapUpdate,Sem.run_bind,run_underlying ht,MapKept.run_getObj_map hb,run_checkKey hk (K.isKey x),run_findKey hk hfind,hkeep,Result.andThen]
   simp [MapKept.run_setObj_map _ hb,Go.ChangeMaps.setBlock]
  ·exact stamped_modify hs j _ (fun _ _ => rfl) fun e he hje => by
    rw [h3'] at hje
    cases hje
    exact h4.symm
  ·intro y hy
   obtain ⟨i,hi⟩:=List.getElem?_of_mem hy;rw [Array.getElem?_toList,Array.getElem?_modify] at hi
   by_cases hji:j=i
   ·rw [if_pos hji] at hi
    rw [← hji,h3'] at hi
    cases hi
    exact ⟨x,rfl,by show (if x=x then some v else f x)=_;rw [if_pos rfl]⟩
   ·rw [if_neg hji] at hi
    have hmem:y ∈ es.toList:=List.mem_of_getElem? (by rw [Array.getElem?_toList];exact hi)
    obtain ⟨a,ha,hf⟩:=h1 y hmem;refine ⟨a,ha,?_⟩;show (if a=x then some v else f a)=_
    rw [if_neg (fun hax => ?_)]
    ·exact hf
    ·subst hax
     have hlj:j < es.toList.length:=(List.getElem?_eq_some_iff.1 h3).1
     have hli:i < es.toList.length:=by
      have:=(Array.getElem?_eq_some_iff.1 hi).1
      simpa using this
     have hn:=hs.2.2;have hkj:(es.toList.map (·.key))[j]? = some (K.enc a):=by rw [List.getElem?_map,h3];simp [h4]
     have hki:(es.toList.map (·.key))[i]? = some (K.enc a):=by rw [List.getElem?_map,Array.getElem?_toList,hi];simp [ha]
     have hjl:j < (es.toList.map (·.key)).length:=(List.getElem?_eq_some_iff.1 hkj).1
     have hil:i < (es.toList.map (·.key)).length:=(List.getElem?_eq_some_iff.1 hki).1
     have e1:(es.toList.map (·.key))[j]=(es.toList.map (·.key))[i]:=by
      have a1:=(List.getElem?_eq_some_iff.1 hkj).2;have a2:=(List.getElem?_eq_some_iff.1 hki).2;rw [a1,a2]
     exact hji ((List.getElem_inj hn).1 e1)
  ·intro a u ha
   have ha:(if a=x then some v else f a)=some u:=ha
   have key:∀ y ∈ es.toList,∃ z ∈ (es.modify j fun e => { e with key:=K.enc x,val:=v }).toList,z.key=y.key:=fun y hy => by
    obtain ⟨i,hi⟩:=List.getElem?_of_mem hy;rw [Array.getElem?_toList] at hi
    by_cases hji:j=i
    ·subst hji
     refine ⟨{ y with key:=K.enc x,val:=v },List.mem_of_getElem? (i:=j) (by rw [Array.getElem?_toList,Array.getElem?_modify,if_pos rfl,hi];rfl),?_⟩
     rw [h3'] at hi
     cases hi
     exact h4.symm
    ·exact ⟨y,List.mem_of_getElem? (i:=i) (by rw [Array.getElem?_toList,Array.getElem?_modify,if_neg hji];exact hi),rfl⟩
   by_cases hax:a=x
   ·obtain ⟨z,hz,hzk⟩:=key e0 (List.mem_of_getElem? h3)
    exact ⟨z,hz,by rw [hzk,h4,hax]⟩
   ·rw [if_neg hax] at ha
    obtain ⟨y,hy,hyk⟩:=h2 a u ha;obtain ⟨z,hz,hzk⟩:=key y hy;exact ⟨z,hz,by rw [hzk,hyk]⟩
theorem MapK.look (h:MapK K w B f) (ht:P.underlying t=some (.map k e)) (hk:P.underlying k=some K.kind) {z:Value} (hz:∀ w,(zeroValue e).run P w=.ok z w) (x:α) :
 (Instr.lookup t (.map (some B)) (K.enc x) false).run P w=.ok ((f x).getD z) w:=by
 obtain ⟨es,clock,hb,hs,h1,h2⟩:=h;rcases findNow_spec (K.isKey x) es.toList 0 (fun y hy => by obtain ⟨j,hj,_⟩:=h1 y hy;rw [hj];exact K.isKey j) with ⟨hfind,hno⟩ | ⟨j,e0,hfind,h3,h4⟩
 ·have hx:f x=none:=by
   cases hf:f x with
   | none => rfl
   | some v =>
     obtain ⟨y,hy,hyk⟩:=h2 x v hf;exact absurd hyk (hno y hy)
  rw [hx];simp [Instr.lookup,run_underlying ht,MapKept.run_getObj_map hb,run_checkKey hk (K.isKey x),run_findKey hk hfind,Result.andThen,hz]
 ·have hx:f x=some e0.val:=by
   obtain ⟨j',hj',hf⟩:=h1 e0 (List.mem_of_getElem? h3);rw [← K.inj _ _ (hj'.symm.trans h4)];exact hf
  rw [hx];have hfind':Instr.findNow K.kind (K.enc x) es.toList 0=some (some (0+j,e0.val)):=by simpa using hfind
  simp [Instr.lookup,run_underlying ht,MapKept.run_getObj_map hb,run_checkKey hk (K.isKey x),run_findKey hk hfind',Result.andThen]
theorem MapK.look_ok (h:MapK K w B f) (ht:P.underlying t=some (.map k e)) (hk:P.underlying k=some K.kind) {z:Value} (hz:∀ w,(zeroValue e).run P w=.ok z w) (x:α) :
 (Instr.lookup t (.map (some B)) (K.enc x) true).run P w=.ok (.tuple #[(f x).getD z,.bool (f x).isSome]) w:=by
 obtain ⟨es,clock,hb,hs,h1,h2⟩:=h;rcases findNow_spec (K.isKey x) es.toList 0 (fun y hy => by obtain ⟨j,hj,_⟩:=h1 y hy;rw [hj];exact K.isKey j) with ⟨hfind,hno⟩ | ⟨j,e0,hfind,h3,h4⟩
 ·have hx:f x=none:=by
   cases hf:f x with
   | none => rfl
   | some v =>
     obtain ⟨y,hy,hyk⟩:=h2 x v hf;exact absurd hyk (hno y hy)
  rw [hx];simp [Instr.lookup,run_underlying ht,MapKept.run_getObj_map hb,run_checkKey hk (K.isKey x),run_findKey hk hfind,Result.andThen,hz]
 ·have hx:f x=some e0.val:=by
   obtain ⟨j',hj',hf⟩:=h1 e0 (List.mem_of_getElem? h3);rw [← K.inj _ _ (hj'.symm.trans h4)];exact hf
  rw [hx];have hfind':Instr.findNow K.kind (K.enc x) es.toList 0=some (some (0+j,e0.val)):=by simpa using hfind
  simp [Instr.lookup,run_underlying ht,MapKept.run_getObj_map hb,run_checkKey hk (K.isKey x),run_findKey hk hfind',Result.andThen]
theorem look_nil (ht:P.underlying t=some (.map k e)) (hk:P.underlying k=some K.kind) {z:Value} (hz:∀ w,(zeroValue e).run P w=.ok z w) (x:α) (w:World) :
 (Instr.lookup t (.map none) (K.enc x) false).run P w=.ok z w:=by
 have hf:Instr.findNow K.kind (K.enc x) [] 0=some none:=rfl;simp [Instr.lookup,run_underlying ht,run_checkKey hk (K.isKey x),run_findKey hk hf,Result.andThen,hz]
end
section
variable {α:Type} [DecidableEq α] {K:Keying α} {P:Program} {w:World} {ops:Array Oper} {rest:List Oper} {o:Oper} {a:Act} {Q:Exit → Act → World → Prop} {f:α → Option Value} {t k e:TypeId}
theorem wpList_putK (hg:o.guard=none) (m x v:Operand) (hop:o.op=.mapUpdate t m x v) (ht:P.underlying t=some (.map k e)) (hk:P.underlying k=some K.kind)
 (B:Nat) (h:MapK K w B f) (hm:a.eval m=.map (some B)) (key:α) (hx:a.eval x=K.enc key) (val:Value) (hv:a.eval v=val)
 (hK:∀ w',Hid (MapK K w' B (fun y => if y=key then some val else f y)) → Hid (Kept (oneB B) w w') → w'.heap.size=w.heap.size → wpList P ops Q rest (a.put o.dst undef) w'):wpList P ops Q (o :: rest) a w:=by
 refine wpList_plain hg fun K' hK' => ?_
 subst hv;obtain ⟨w',hrun,h1,h2,h3⟩:=h.put ht hk key (a.eval v);unfold Oper.wp;simp [execOp,hop,hm,hx,hrun,Result.andThen];exact hK' _ _ (hK w' (Lib.hid h1) (Lib.hid h2) h3)
end
end Go.Proofs.YtnpkcneojilmkaaGreatDoor.Mk
end
section
namespace Go.Proofs.YtnpkcneojilmkaaGreatDoor.Mk
open Go.ChangeShapes Go.WideShapes Go.ChangeAt Go.RowKit Go.MapKept Base Byt Txt
set_option linter.unusedVariables false
def u8K:Keying UInt8 where
 enc c:=.int .u8 (c.toNat:Int)
 kind:=.int .u8
 isKey _:=rfl
 inj a b h:=by injection h with _ h;exact UInt8.toNat.inj (by omega)
 same a:=by
  rw [Instr.sameBits];simp
section
variable {α:Type} {K:Keying α} {w:World} {B:Nat} {f:α → Option Value} {P:Program} {t k e:TypeId}
theorem MapK.count (h:MapK K w B f) (ht:P.underlying t=some (.map k e)) (ty:TypeId):∃ n:Nat,(Builtin.len_ #[t] ty #[.map (some B)]).run P w=.ok (.int .i64 n) w∧(n=0 ↔ ∀ x,f x=none):=by
 obtain ⟨es,clock,hb,hs,h1,h2⟩:=h;refine ⟨es.size,by simp [Builtin.len_,run_underlying ht,MapKept.run_getObj_map hb,goInt,Result.andThen],fun hz x => ?_,fun hn => ?_⟩
 ·cases hf:f x with
  | none => rfl
  | some v =>
    obtain ⟨y,hy,_⟩:=h2 x v hf;rw [Array.eq_empty_of_size_eq_zero hz] at hy;simp at hy
 ·rcases Nat.eq_zero_or_pos es.size with h0 | h0
  ·exact h0
  ·obtain ⟨j,_,hf⟩:=h1 es[0] (by simp)
   rw [hn j] at hf
   cases hf
theorem MapK.cleared (h:MapK K w B f) (ht:P.underlying t=some (.map k e)) (ty:TypeId) :
 ∃ w',(Builtin.clear_ #[t] ty #[.map (some B)]).run P w=.ok (.tuple #[]) w'∧MapK K w' B (fun _ => none)∧Kept (oneB B) w w'∧w'.heap.size=w.heap.size:=by
 obtain ⟨es,clock,hb,hs,h1,h2⟩:=h;refine ⟨Go.ChangeMaps.setBlock w B (.map #[] clock),?_,⟨#[],clock,(MapKept.heap_set hb).1,stamped_empty clock,by simp,by simp⟩,kept_block hb,by simp [Go.ChangeMaps.setBlock]⟩
 simp [Builtin.clear_,run_underlying ht,MapKept.run_getObj_map hb,MapKept.run_setObj_map _ hb,Result.andThen,Go.ChangeMaps.setBlock]
end
section
variable {α:Type} {K:Keying α} {P:Program} {w:World} {ops:Array Oper} {rest:List Oper} {o:Oper} {a:Act} {Q:Exit → Act → World → Prop} {f:α → Option Value} {t k e:TypeId}
end
end Go.Proofs.YtnpkcneojilmkaaGreatDoor.Mk
end
