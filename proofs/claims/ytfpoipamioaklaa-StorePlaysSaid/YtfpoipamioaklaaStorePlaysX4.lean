/- Texts of this seat, merged: what the proof reaches. -/
import Derived.Test.YtfpoipamioaklaaStorePlaysX3
import Derived.Laws.AppendOwnNone
import Derived.BigRegion
import Derived.Maps.OwnOps
import Derived.Maps.Own
import Derived.Maps.OwnSet
import Derived.Deep.QuietTactic
import Derived.RegionTactic
namespace Go.Proofs.Ytfpoipamioaklaa
namespace Base
end Base
namespace Byt
end Byt
namespace Txt
end Txt
end Go.Proofs.Ytfpoipamioaklaa
section
namespace Go.Proofs.Ytfpoipamioaklaa.Byt
open Go.ChangeShapes Go.WideShapes Go.ChangeAt Go.RowKit Base Go.Lib
set_option linter.unusedVariables false
def nums (bs:List UInt8):List Int:=bs.map fun x => (x.toNat:Int)
theorem nums_length (bs:List UInt8):(nums bs).length=bs.length:=by simp [nums]
theorem nums_bd (bs:List UInt8):∀ x ∈ nums bs,0≤x∧x < 256:=fun x hx => by
 obtain ⟨y,_,rfl⟩:=List.mem_map.1 hx;have:=y.toNat_lt;omega
theorem bytesOf_nums (bs:List UInt8):bytesOf (nums bs)=bs:=by
 unfold bytesOf nums;rw [List.map_map]
 conv => rhs;rw [← List.map_id bs]
 apply List.map_congr_left;intro x _;simp
theorem nums_getElem (bs:List UInt8) (j:Nat) (hj:j < bs.length):((nums bs).map (Value.int .u8))[j]? = some (.int .u8 (bs.getD j 0).toNat):=by
 simp [nums,List.getD,hj]
theorem append_bytes {P:Program} {w:World} {ops:Array Oper} {rest:List Oper} {o:Oper} {a:Act} {Q:Exit → Act → World → Prop} (hgd:o.guard=none) (s x:Operand) (t:TypeId)
 (ho:o.op=.call { callee:=.builtin .append,args:=#[s,x],argTypes:=#[t,t] })
 (base:Nat) (e:TypeId) (i:TypeInfo) (ht:P.underlying t=some (.slice e)) (hi:P.info? e=some i) (hz:i.zero=some (.int .u8 0)) (hsize:i.size=1) (hby:i.bytes=1)
 (v:Value) (n:Nat) (xs:List Int) (hs:a.eval s=v) (hown:w.ownsRow base e 1 v n (xs.map (Value.int .u8)))
 (p:Option Addr) (m c:Nat) (bs:List UInt8) (hx:a.eval x=.slice p m c) (hb:BAt w p m bs) (hl:bs.length=m) (hsum:n+m≤140737488351232) (hbase:base≤w.heap.size)
 (h:∀ v' w',w'.ownsRow base e 1 v' (n+m) ((xs++nums bs).map (Value.int .u8)) → w.grownBy w' v.ownBlock → wpList P ops Q rest (a.put o.dst v') w'):wpList P ops Q (o :: rest) a w:=by
 rcases p with _ | ad
 ·have hm:m=0:=by
   rcases Nat.eq_zero_or_pos m with h0 | h0
   ·exact h0
   ·obtain ⟨_,_,he,_⟩:=hb h0
    cases he
  subst hm;obtain rfl:bs=[]:=List.eq_nil_of_length_eq_zero hl
  have hrun:(Builtin.append_ #[t,t] o.type #[v,.slice none 0 c]).run P w=.ok v w:=by
   rcases hown.2 with ⟨rfl,rfl⟩ | ⟨g,cap,cur,rfl,_,_,hnc,_⟩
   ·simp [Builtin.append_,run_underlying ht,sizeOf,typeInfo,hi,Builtin.lenOf,Builtin.firstCells]
   ·simp [Builtin.append_,run_underlying ht,sizeOf,typeInfo,hi,Builtin.lenOf,Builtin.firstCells,hnc,storeCells]
  refine wpList_plain hgd fun K hK => ?_
  unfold Oper.wp;simp [execOp,ho,resolve,invoke,builtin,hs,hx,hrun,Result.andThen];exact hK _ _ (h v w (by simpa [nums] using hown) (World.grownBy.refl w _))
 ·refine wpList_append_own w hgd s x t ho base e i (.int .u8 0) 1 1 ht hi hz hsize hby rfl (by decide) v n (xs.map (Value.int .u8)) hs hown ad m c ((nums bs).map (Value.int .u8)) hx (by rw [List.length_map,nums_length,hl];omega) ?_ (ints_oneCell .u8 _) (by unfold maxLen;omega) (by omega) hbase ?_
  ·intro j u hj
   have hjl:j < m:=by
    have:=(List.getElem?_eq_some_iff.1 hj).1;rw [List.length_map,nums_length,hl] at this;exact this
   obtain ⟨b,off,he,hc⟩:=hb (by omega)
   cases he
   rw [nums_getElem bs j (by omega)] at hj
   cases hj
   rw [WideShapes.add_plain];exact hc j hjl
  ·intro v' w' h1 h2 _
   rw [← List.map_append] at h1;exact h v' w' h1 h2
end Go.Proofs.Ytfpoipamioaklaa.Byt
end
section
namespace Go.Proofs.Ytfpoipamioaklaa.Byt
open Go.ChangeShapes Go.WideShapes Go.ChangeAt Go.RowKit Base Go.Lib
set_option linter.unusedVariables false
structure Kept (S:Nat → Prop) (w w':World):Prop where
 os:w'.os=w.os
 tape:w'.tape=w.tape
 output:w'.output=w.output
 size:w.heap.size≤w'.heap.size
 block:∀ k,k < w.heap.size → ¬ S k → w'.heap[k]? = w.heap[k]?
def noneB:Nat → Prop:=fun _ => False
def oneB (g:Nat):Nat → Prop:=fun k => k=g
section
variable {S T:Nat → Prop} {w w' w'':World}
theorem Kept.refl (S:Nat → Prop) (w:World):Kept S w w:=⟨rfl,rfl,rfl,Nat.le_refl _,fun _ _ _ => rfl⟩
theorem Kept.trans (h:Kept S w w') (k:Kept S w' w''):Kept S w w'':=
 ⟨k.os.trans h.os,k.tape.trans h.tape,k.output.trans h.output,Nat.le_trans h.size k.size,fun i hi hn => (k.block i (Nat.lt_of_lt_of_le hi h.size) hn).trans (h.block i hi hn)⟩
theorem Kept.mono (h:Kept S w w') (hs:∀ k,S k → T k):Kept T w w':=⟨h.os,h.tape,h.output,h.size,fun k hk hn => h.block k hk fun hh => hn (hs k hh)⟩
theorem Kept.of_none (h:Kept noneB w w') (S:Nat → Prop):Kept S w w':=h.mono fun _ hh => hh.elim
theorem Kept.drewN (h:Kept S w w') (n:Nat):Kept S w (w'.drewN n):=h.trans ⟨rfl,rfl,rfl,Nat.le_refl _,fun _ _ _ => rfl⟩
theorem Kept.drew (h:Kept S w w'):Kept S w w'.drew:=h.trans ⟨rfl,rfl,rfl,Nat.le_refl _,fun _ _ _ => rfl⟩
theorem Kept.alloc (h:Kept S w w') (o:Obj):Kept S w (w'.alloc o):=h.trans ⟨rfl,rfl,rfl,by simp,fun k hk _ => Below.heap_alloc _ _ _ hk⟩
theorem Kept.setCell (h:Kept S w w') {a:Addr} (ha:w.heap.size≤a.block ∨ S a.block) (v:Value):Kept S w (w'.setCell a v):=
 ⟨h.os,h.tape,h.output,by simpa using h.size,fun k hk hn => by
  rw [Below.heap_setCell _ _ _ _ (fun e => by rcases ha with ha | ha;· omega
                                              ·exact hn (e ▸ ha))]
  exact h.block k hk hn⟩
theorem Kept.below (h:Kept S w w') {B:Nat} (hB:B≤w.heap.size) (hs:∀ k,S k → B≤k):Below B w w':=
 ⟨h.os,h.tape,h.output,h.size,fun k hk => h.block k (by omega) fun hh => by have:=hs k hh;omega⟩
theorem Kept.of_below (h:Below w.heap.size w w') (S:Nat → Prop):Kept S w w':=⟨h.os,h.tape,h.output,h.size,fun k hk _ => h.block k hk⟩
theorem Kept.grown (h:Kept S w w') {row:Option Nat} (hg:w'.grownBy w'' row) (hr:∀ k,row=some k → w.heap.size≤k ∨ S k):Kept S w w'':=
 ⟨hg.os.trans h.os,hg.tape.trans h.tape,hg.output.trans h.output,Nat.le_trans h.size hg.size,fun k hk hn => by
  rw [hg.block k (Nat.lt_of_lt_of_le hk h.size) (fun e => by rcases hr k e.symm with h1 | h1;· omega
                                                             ·exact hn h1)]
  exact h.block k hk hn⟩
theorem Kept.then (h:Kept S w w') (k:Kept T w' w'') (hs:∀ i,T i → w.heap.size≤i ∨ S i):Kept S w w'':=
 ⟨k.os.trans h.os,k.tape.trans h.tape,k.output.trans h.output,Nat.le_trans h.size k.size,fun i hi hn => by
  rw [k.block i (Nat.lt_of_lt_of_le hi h.size) (fun hh => by rcases hs i hh with h1 | h1;· omega
                                                             ·exact hn h1)]
  exact h.block i hi hn⟩
theorem Kept.at (h:Kept S w w') {k:Nat} (hk:k < w.heap.size) (hn:¬ S k):w'.heap[k]? = w.heap[k]?:=h.block k hk hn
theorem Kept.some_ (h:Kept S w w') {k:Nat} {o:Obj} (hk:w.heap[k]? = some o) (hn:¬ S k):w'.heap[k]? = some o:=
 (h.block k (Array.getElem?_eq_some_iff.1 hk).1 hn).trans hk
theorem BAt.kept {p:Option Addr} {n:Nat} {bs:List UInt8} (h:BAt w p n bs) (hk:Kept S w w') (hn:0 < n → ∀ a,p=some a → ¬ S a.block):BAt w' p n bs:=fun h0 => by
 obtain ⟨b,o,rfl,hbw,hc⟩:=h.cell h0;exact ⟨b,o,rfl,fun i hi => by rw [World.cell?_of_block (hk.block b hbw (hn h0 _ rfl))];exact hc i hi⟩
theorem ownsRow_kept {base:Nat} {e:TypeId} {size:Nat} {v:Value} {n:Nat} {xs:List Value} (h:w.ownsRow base e size v n xs) (hk:Kept S w w') (hn:∀ k,v.ownBlock=some k → ¬ S k):w'.ownsRow base e size v n xs:=
 ⟨h.1,h.2.imp id fun ⟨g,cap,cur,h1,h2,h3,h4⟩ => ⟨g,cap,cur,h1,h2,hk.some_ h3 (hn g (by rw [h1];rfl)),h4⟩⟩
def IAt (w:World) (p:Option Addr) (n:Nat) (zs:List Int):Prop:=
 0 < n → ∃ b o,p=some ⟨b,o,none⟩∧b < w.heap.size ∧ ∀ i,i < n → w.cell? ⟨b,o+i,none⟩=some (.int .i64 (zs.getD i 0))
theorem IAt.kept {p:Option Addr} {n:Nat} {zs:List Int} (h:IAt w p n zs) (hk:Kept S w w') (hn:0 < n → ∀ a,p=some a → ¬ S a.block):IAt w' p n zs:=fun h0 => by
 obtain ⟨b,o,rfl,hbw,hc⟩:=h h0;exact ⟨b,o,rfl,Nat.lt_of_lt_of_le hbw hk.size,fun i hi => by rw [World.cell?_of_block (hk.block b hbw (hn h0 _ rfl))];exact hc i hi⟩
theorem iat_of_row {a:Option Addr} {len cap:Nat} {zs:List Int} (h:IsRow .i64 w a len cap zs):IAt w a len (zs.take len)∧(zs.take len).length=len∧len≤cap∧cap≤maxLen:=by
 refine ⟨fun h0 => ?_,?_⟩
 ·obtain ⟨b,off,rfl,_,_,_,hb,h5,_⟩:=row_at h h0
  exact ⟨b,off,rfl,hb,h5⟩
 ·rcases h with ⟨_,rfl,rfl,rfl⟩ | ⟨_,_,h1,h2,h3,_,_⟩
  ·exact ⟨rfl,by omega,by omega⟩
  ·exact ⟨by rw [List.length_take];omega,h1,h2⟩
theorem iat_of_own {base:Nat} {e:TypeId} {v:Value} {n:Nat} {zs:List Int} (h:w.ownsRow base e 1 v n (zs.map (Value.int .i64))) :
 ∃ p c,v=.slice p n c∧n≤c∧c≤maxLen∧IAt w p n zs∧zs.length=n∧(∀ a,p=some a → base≤a.block∧v.ownBlock=some a.block):=by
 have hl:zs.length=n:=by have:=h.1;simpa using this
 have hlt:=h.lt;have h':=h;rcases h.2 with ⟨rfl,rfl⟩ | ⟨g,cap,cur,rfl,hg,_,h1,h2,_⟩
 ·exact ⟨none,0,rfl,by omega,by omega,fun h => absurd h (by omega),hl,fun a h => by cases h⟩
 ·refine ⟨some ⟨g,0,none⟩,cap,rfl,h1,h2,fun h0 => ⟨g,0,rfl,(hlt g rfl).2,fun i hi => ?_⟩,hl,fun a h => by cases h;exact ⟨hg,rfl⟩⟩
  rw [Nat.zero_add,h'.cellAt i (by omega),List.getElem?_map,List.getElem?_eq_getElem (by omega)]
  simp [List.getD,hl,hi]
theorem own_block {base:Nat} {e:TypeId} {size:Nat} {v:Value} {n:Nat} {xs:List Value} (h:w.ownsRow base e size v n xs) {p:Option Addr} {m c:Nat} (hv:v=.slice p m c):∀ a,p=some a → base≤a.block∧a.block < w.heap.size∧v.ownBlock=some a.block:=fun a ha => by
 subst ha hv;exact ⟨(h.lt _ rfl).1,(h.lt _ rfl).2,rfl⟩
theorem append_ints {P:Program} {w:World} {ops:Array Oper} {rest:List Oper} {o:Oper} {a:Act} {Q:Exit → Act → World → Prop} (hgd:o.guard=none) (s x:Operand) (t:TypeId)
 (ho:o.op=.call { callee:=.builtin .append,args:=#[s,x],argTypes:=#[t,t] })
 (base:Nat) (e:TypeId) (i:TypeInfo) (ht:P.underlying t=some (.slice e)) (hi:P.info? e=some i) (hz:i.zero=some (.int .i64 0)) (hsize:i.size=1) (hby:i.bytes=8)
 (v:Value) (n:Nat) (xs:List Int) (hs:a.eval s=v) (hown:w.ownsRow base e 1 v n (xs.map (Value.int .i64)))
 (p:Option Addr) (m c:Nat) (zs:List Int) (hx:a.eval x=.slice p m c) (hb:IAt w p m zs) (hl:zs.length=m) (hsum:(n+m) * 8≤140737488351232) (hbase:base≤w.heap.size)
 (h:∀ v' w',w'.ownsRow base e 1 v' (n+m) ((xs++zs).map (Value.int .i64)) → w.grownBy w' v.ownBlock → wpList P ops Q rest (a.put o.dst v') w'):wpList P ops Q (o :: rest) a w:=by
 rcases p with _ | ad
 ·have hm:m=0:=by
   rcases Nat.eq_zero_or_pos m with h0 | h0
   ·exact h0
   ·obtain ⟨_,_,he,_⟩:=hb h0
    cases he
  subst hm;obtain rfl:zs=[]:=List.eq_nil_of_length_eq_zero hl
  have hrun:(Builtin.append_ #[t,t] o.type #[v,.slice none 0 c]).run P w=.ok v w:=by
   rcases hown.2 with ⟨rfl,rfl⟩ | ⟨g,cap,cur,rfl,_,_,hnc,_⟩
   ·simp [Builtin.append_,run_underlying ht,sizeOf,typeInfo,hi,Builtin.lenOf,Builtin.firstCells]
   ·simp [Builtin.append_,run_underlying ht,sizeOf,typeInfo,hi,Builtin.lenOf,Builtin.firstCells,hnc,storeCells]
  refine wpList_plain hgd fun K hK => ?_
  unfold Oper.wp;simp [execOp,ho,resolve,invoke,builtin,hs,hx,hrun,Result.andThen];exact hK _ _ (h v w (by simpa using hown) (World.grownBy.refl w _))
 ·refine wpList_append_own w hgd s x t ho base e i (.int .i64 0) 1 8 ht hi hz hsize hby rfl (by decide) v n (xs.map (Value.int .i64)) hs hown ad m c (zs.map (Value.int .i64)) hx (by rw [List.length_map,hl];omega) ?_ (ints_oneCell .i64 _) (by unfold maxLen;omega) (by omega) hbase ?_
  ·intro j u hj
   have hjl:j < m:=by
    have:=(List.getElem?_eq_some_iff.1 hj).1;rw [List.length_map,hl] at this;exact this
   obtain ⟨b,off,he,_,hc⟩:=hb (by omega)
   cases he
   rw [List.getElem?_map,List.getElem?_eq_getElem (by omega)] at hj
   cases hj
   rw [WideShapes.add_plain,hc j hjl];simp [List.getD,List.getElem?_eq_getElem (show j < zs.length by omega)]
  ·intro v' w' h1 h2 _
   rw [← List.map_append] at h1;exact h v' w' h1 h2
end
theorem infoU8:(Try.prog.info? 5).map (fun i => (i.zero,i.size,i.bytes))=some (some (.int .u8 0),1,1):=by kernel_rfl
theorem infoI64:(Try.prog.info? 3).map (fun i => (i.zero,i.size,i.bytes))=some (some (.int .i64 0),1,8):=by kernel_rfl
end Go.Proofs.Ytfpoipamioaklaa.Byt
end
section
namespace Go.Proofs.Ytfpoipamioaklaa.Block
open Go.ChangeShapes Go.WideShapes Go.ChangeAt Go.RowKit Base Byt Go.Lib
set_option linter.unusedVariables false
structure Sv where
 p:Option Addr
 n:Nat
 c:Nat
 bs:List UInt8
 q:Option Addr
 m:Nat
 d:Nat
 zs:List Int
section
variable {w w':World} {g a t:Nat} {S:Sv}
end
def Sv.off (S:Sv) (g:Nat):Prop:=0 < S.m → ∀ x,S.q=some x → x.block≠g
section
variable {w w':World} {g a t:Nat} {S:Sv}
end
end Go.Proofs.Ytfpoipamioaklaa.Block
end
section
namespace Go.Proofs.Ytfpoipamioaklaa.Block
open Go.ChangeShapes Go.WideShapes Go.ChangeAt Go.RowKit Base Byt Go.Lib
set_option linter.unusedVariables false
def OwnB (w:World) (B:Nat) (v:Value) (n:Nat) (bs:List UInt8):Prop:=w.ownsRow B 5 1 v n ((nums bs).map (Value.int .u8))
theorem OwnB.kept {T:Nat → Prop} {w w':World} {B:Nat} {v:Value} {n:Nat} {bs:List UInt8} (h:OwnB w B v n bs) (hk:Kept T w w') (hn:∀ k,v.ownBlock=some k → ¬ T k):OwnB w' B v n bs:=ownsRow_kept h hk hn
theorem OwnB.slice {w:World} {B:Nat} {v:Value} {n:Nat} {bs:List UInt8} (h:OwnB w B v n bs):∃ p c,v=.slice p n c∧n≤c∧c≤maxLen∧BAt w p n bs∧bs.length=n ∧ ∀ x,p=some x → B≤x.block∧x.block < w.heap.size∧v.ownBlock=some x.block:=by
 obtain ⟨p,c,hv,h1,h2,h3,h4⟩:=bat_of_own h (nums_bd bs);rw [bytesOf_nums] at h3 h4;exact ⟨p,c,hv,h1,h2,h3,h4,own_block h hv⟩
theorem OwnB.lt {w:World} {B:Nat} {v:Value} {n:Nat} {bs:List UInt8} (h:OwnB w B v n bs):∀ k,v.ownBlock=some k → B≤k∧k < w.heap.size:=World.ownsRow.lt h
theorem OwnB.mono {w:World} {B B':Nat} {v:Value} {n:Nat} {bs:List UInt8} (h:OwnB w B v n bs) (hb:B'≤B):OwnB w B' v n bs:=
 ⟨h.1,h.2.imp id fun ⟨g,cap,cur,h1,h2,h3⟩ => ⟨g,cap,cur,h1,Nat.le_trans hb h2,h3⟩⟩
end Go.Proofs.Ytfpoipamioaklaa.Block
end
section
namespace Go.Proofs.Ytfpoipamioaklaa.Mk
open Go.ChangeShapes Go.WideShapes Go.ChangeAt Go.RowKit Go.MapKept Base Byt Txt
set_option linter.unusedVariables false
structure Keying (α:Type) where
 enc:α → Value
 kind:TypeDesc
 isKey:∀ a,IsKey kind (enc a)
 inj:∀ a b,enc a=enc b → a=b
 same:∀ a,Instr.sameBits 10000 (enc a) (enc a)=true
section
variable {α:Type} (K:Keying α)
def MapK (w:World) (B:Nat) (f:α → Option Value):Prop:=
 ∃ es clock,w.heap[B]? = some (.map es clock)∧Stamped es clock∧(∀ e ∈ es.toList,∃ k,e.key=K.enc k∧f k=some e.val)∧(∀ k v,f k=some v → ∃ e ∈ es.toList,e.key=K.enc k)
variable {K} {w w':World} {B:Nat} {f:α → Option Value}
theorem MapK.lt (h:MapK K w B f):B < w.heap.size:=by
 obtain ⟨es,clock,hb,_⟩:=h;exact (Array.getElem?_eq_some_iff.1 hb).1
theorem MapK.kept {S:Nat → Prop} (h:MapK K w B f) (hk:Kept S w w') (hB:¬ S B):MapK K w' B f:=by
 obtain ⟨es,clock,hb,h⟩:=h;exact ⟨es,clock,hk.some_ hb hB,h⟩
theorem mapK_made (K:Keying α) (w:World):MapK K (w.alloc (.map #[] 0)) w.heap.size (fun _ => none):=
 ⟨#[],0,(MapKept.heap_alloc w _).1,stamped_empty 0,by simp,by simp⟩
theorem kept_block {o o':Obj} (hb:w.heap[B]? = some o):Kept (oneB B) w (Go.ChangeMaps.setBlock w B o'):=
 ⟨rfl,rfl,rfl,by simp [Go.ChangeMaps.setBlock],fun k hk hn => (MapKept.heap_set hb).2 k hn⟩
variable {P:Program} {t k e:TypeId}
theorem MapK.put [DecidableEq α] (h:MapK K w B f) (ht:P.underlying t=some (.map k e)) (hk:P.underlying k=some K.kind) (x:α) (v:Value) :
 ∃ w',(Instr.mapUpdate t (.map (some B)) (K.enc x) v).run P w=.ok () w'∧MapK K w' B (fun y => if y=x then some v else f y)∧Kept (oneB B) w w'∧w'.heap.size=w.heap.size:=by
 obtain ⟨es,clock,hb,hs,h1,h2⟩:=h;rcases findNow_spec (K.isKey x) es.toList 0 (fun y hy => by obtain ⟨j,hj,_⟩:=h1 y hy;rw [hj];exact K.isKey j) with ⟨hfind,hne⟩ | ⟨j,e0,hfind,h3,h4⟩
 ·refine ⟨Go.ChangeMaps.setBlock w B (.map (es.push { key:=K.enc x,val:=v,born:=clock }) (clock+1)),?_,⟨_,_,(MapKept.heap_set hb).1,stamped_push hs hne,?_,?_⟩,kept_block hb,by simp [Go.ChangeMaps.setBlock]⟩
  ·simp [Instr.mapUpdate,run_underlying ht,MapKept.run_getObj_map hb,run_checkKey hk (K.isKey x),run_findKey hk hfind,MapKept.run_setObj_map _ hb,Result.andThen,Go.ChangeMaps.setBlock]
  ·intro y hy
   simp only [Array.toList_push,List.mem_append,List.mem_singleton] at hy;rcases hy with hy | rfl
   ·obtain ⟨j,hj,hf⟩:=h1 y hy
    refine ⟨j,hj,?_⟩;show (if j=x then some v else f j)=_
    rw [if_neg (fun e => hne y hy (by rw [hj,e]))]
    exact hf
   ·exact ⟨x,rfl,by show (if x=x then some v else f x)=_;rw [if_pos rfl]⟩
  ·intro j u hj
   simp only [Array.toList_push,List.mem_append,List.mem_singleton];have hj:(if j=x then some v else f j)=some u:=hj
   by_cases hjx:j=x
   ·exact ⟨_,Or.inr rfl,by rw [hjx]⟩
   ·rw [if_neg hjx] at hj
    obtain ⟨y,hy,hk⟩:=h2 j u hj;exact ⟨y,Or.inl hy,hk⟩
 ·rw [Nat.zero_add] at hfind
  have h3':es[j]? = some e0:=by simpa using h3
  have hkeep:∀ w:World,(Instr.keyThatStays (((es[j]?).map (·.key)).getD (K.enc x)) (K.enc x)).run P w=.ok (K.enc x) w:=fun w => by
   rw [h3'];simp only [Option.map_some,Option.getD_some,h4,Instr.keyThatStays,K.same x,if_true];rfl
  refine ⟨Go.ChangeMaps.setBlock w B (.map (es.modify j fun e => { e with key:=K.enc x,val:=v }) clock),?_,⟨_,_,(MapKept.heap_set hb).1,?_,?_,?_⟩,kept_block hb,by simp [Go.ChangeMaps.setBlock]⟩
  ·simp only [Instr.mapUpdate,Sem.run_bind,run_underlying ht,MapKept.run_getObj_map hb,run_checkKey hk (K.isKey x),run_findKey hk hfind,hkeep,Result.andThen]
   simp [MapKept.run_setObj_map _ hb,Go.ChangeMaps.setBlock]
  ·exact stamped_modify hs j _ (fun _ _ => rfl) fun e he hje => by
    rw [h3'] at hje
    cases hje
    exact h4.symm
  ·intro y hy
   obtain ⟨i,hi⟩:=List.getElem?_of_mem hy;rw [Array.getElem?_toList,Array.getElem?_modify] at hi
   by_cases hji:j=i
   ·rw [if_pos hji] at hi
    rw [← hji,h3'] at hi
    cases hi
    exact ⟨x,rfl,by show (if x=x then some v else f x)=_;rw [if_pos rfl]⟩
   ·rw [if_neg hji] at hi
    have hmem:y ∈ es.toList:=List.mem_of_getElem? (by rw [Array.getElem?_toList];exact hi)
    obtain ⟨a,ha,hf⟩:=h1 y hmem;refine ⟨a,ha,?_⟩;show (if a=x then some v else f a)=_
    rw [if_neg (fun hax => ?_)]
    ·exact hf
    ·subst hax
     have hlj:j < es.toList.length:=(List.getElem?_eq_some_iff.1 h3).1
     have hli:i < es.toList.length:=by
      have:=(Array.getElem?_eq_some_iff.1 hi).1
      simpa using this
     have hn:=hs.2.2;have hkj:(es.toList.map (·.key))[j]? = some (K.enc a):=by rw [List.getElem?_map,h3];simp [h4]
     have hki:(es.toList.map (·.key))[i]? = some (K.enc a):=by rw [List.getElem?_map,Array.getElem?_toList,hi];simp [ha]
     have hjl:j < (es.toList.map (·.key)).length:=(List.getElem?_eq_some_iff.1 hkj).1
     have hil:i < (es.toList.map (·.key)).length:=(List.getElem?_eq_some_iff.1 hki).1
     have e1:(es.toList.map (·.key))[j]=(es.toList.map (·.key))[i]:=by
      have a1:=(List.getElem?_eq_some_iff.1 hkj).2;have a2:=(List.getElem?_eq_some_iff.1 hki).2;rw [a1,a2]
     exact hji ((List.getElem_inj hn).1 e1)
  ·intro a u ha
   have ha:(if a=x then some v else f a)=some u:=ha
   have key:∀ y ∈ es.toList,∃ z ∈ (es.modify j fun e => { e with key:=K.enc x,val:=v }).toList,z.key=y.key:=fun y hy => by
    obtain ⟨i,hi⟩:=List.getElem?_of_mem hy;rw [Array.getElem?_toList] at hi
    by_cases hji:j=i
    ·subst hji
     refine ⟨{ y with key:=K.enc x,val:=v },List.mem_of_getElem? (i:=j) (by rw [Array.getElem?_toList,Array.getElem?_modify,if_pos rfl,hi];rfl),?_⟩
     rw [h3'] at hi
     cases hi
     exact h4.symm
    ·exact ⟨y,List.mem_of_getElem? (i:=i) (by rw [Array.getElem?_toList,Array.getElem?_modify,if_neg hji];exact hi),rfl⟩
   by_cases hax:a=x
   ·obtain ⟨z,hz,hzk⟩:=key e0 (List.mem_of_getElem? h3)
    exact ⟨z,hz,by rw [hzk,h4,hax]⟩
   ·rw [if_neg hax] at ha
    obtain ⟨y,hy,hyk⟩:=h2 a u ha;obtain ⟨z,hz,hzk⟩:=key y hy;exact ⟨z,hz,by rw [hzk,hyk]⟩
theorem MapK.look (h:MapK K w B f) (ht:P.underlying t=some (.map k e)) (hk:P.underlying k=some K.kind) {z:Value} (hz:∀ w,(zeroValue e).run P w=.ok z w) (x:α) :
 (Instr.lookup t (.map (some B)) (K.enc x) false).run P w=.ok ((f x).getD z) w:=by
 obtain ⟨es,clock,hb,hs,h1,h2⟩:=h;rcases findNow_spec (K.isKey x) es.toList 0 (fun y hy => by obtain ⟨j,hj,_⟩:=h1 y hy;rw [hj];exact K.isKey j) with ⟨hfind,hno⟩ | ⟨j,e0,hfind,h3,h4⟩
 ·have hx:f x=none:=by
   cases hf:f x with
   | none => rfl
   | some v =>
     obtain ⟨y,hy,hyk⟩:=h2 x v hf;exact absurd hyk (hno y hy)
  rw [hx];simp [Instr.lookup,run_underlying ht,MapKept.run_getObj_map hb,run_checkKey hk (K.isKey x),run_findKey hk hfind,Result.andThen,hz]
 ·have hx:f x=some e0.val:=by
   obtain ⟨j',hj',hf⟩:=h1 e0 (List.mem_of_getElem? h3);rw [← K.inj _ _ (hj'.symm.trans h4)];exact hf
  rw [hx];have hfind':Instr.findNow K.kind (K.enc x) es.toList 0=some (some (0+j,e0.val)):=by simpa using hfind
  simp [Instr.lookup,run_underlying ht,MapKept.run_getObj_map hb,run_checkKey hk (K.isKey x),run_findKey hk hfind',Result.andThen]
theorem MapK.look_ok (h:MapK K w B f) (ht:P.underlying t=some (.map k e)) (hk:P.underlying k=some K.kind) {z:Value} (hz:∀ w,(zeroValue e).run P w=.ok z w) (x:α) :
 (Instr.lookup t (.map (some B)) (K.enc x) true).run P w=.ok (.tuple #[(f x).getD z,.bool (f x).isSome]) w:=by
 obtain ⟨es,clock,hb,hs,h1,h2⟩:=h;rcases findNow_spec (K.isKey x) es.toList 0 (fun y hy => by obtain ⟨j,hj,_⟩:=h1 y hy;rw [hj];exact K.isKey j) with ⟨hfind,hno⟩ | ⟨j,e0,hfind,h3,h4⟩
 ·have hx:f x=none:=by
   cases hf:f x with
   | none => rfl
   | some v =>
     obtain ⟨y,hy,hyk⟩:=h2 x v hf;exact absurd hyk (hno y hy)
  rw [hx];simp [Instr.lookup,run_underlying ht,MapKept.run_getObj_map hb,run_checkKey hk (K.isKey x),run_findKey hk hfind,Result.andThen,hz]
 ·have hx:f x=some e0.val:=by
   obtain ⟨j',hj',hf⟩:=h1 e0 (List.mem_of_getElem? h3);rw [← K.inj _ _ (hj'.symm.trans h4)];exact hf
  rw [hx];have hfind':Instr.findNow K.kind (K.enc x) es.toList 0=some (some (0+j,e0.val)):=by simpa using hfind
  simp [Instr.lookup,run_underlying ht,MapKept.run_getObj_map hb,run_checkKey hk (K.isKey x),run_findKey hk hfind',Result.andThen]
end
section
variable {α:Type} [DecidableEq α] {K:Keying α} {P:Program} {w:World} {ops:Array Oper} {rest:List Oper} {o:Oper} {a:Act} {Q:Exit → Act → World → Prop} {f:α → Option Value} {t k e:TypeId}
theorem wpList_putK (hg:o.guard=none) (m x v:Operand) (hop:o.op=.mapUpdate t m x v) (ht:P.underlying t=some (.map k e)) (hk:P.underlying k=some K.kind)
 (B:Nat) (h:MapK K w B f) (hm:a.eval m=.map (some B)) (key:α) (hx:a.eval x=K.enc key) (val:Value) (hv:a.eval v=val)
 (hK:∀ w',Hid (MapK K w' B (fun y => if y=key then some val else f y)) → Hid (Kept (oneB B) w w') → w'.heap.size=w.heap.size → wpList P ops Q rest (a.put o.dst undef) w'):wpList P ops Q (o :: rest) a w:=by
 refine wpList_plain hg fun K' hK' => ?_
 subst hv;obtain ⟨w',hrun,h1,h2,h3⟩:=h.put ht hk key (a.eval v);unfold Oper.wp;simp [execOp,hop,hm,hx,hrun,Result.andThen];exact hK' _ _ (hK w' (Lib.hid h1) (Lib.hid h2) h3)
end
end Go.Proofs.Ytfpoipamioaklaa.Mk
end
section
namespace Go.Proofs.Ytfpoipamioaklaa.Mk
open Go.ChangeShapes Go.WideShapes Go.ChangeAt Go.RowKit Go.MapKept Base Byt Txt
set_option linter.unusedVariables false
section
variable {α:Type} {K:Keying α} {w w':World} {B:Nat} {f:α → Option Value} {P:Program} {t k e:TypeId}
theorem MapK.del [DecidableEq α] (h:MapK K w B f) (ht:P.underlying t=some (.map k e)) (hk:P.underlying k=some K.kind) (x:α) (ty:TypeId) :
 ∃ w',(Builtin.delete_ #[t,k] ty #[.map (some B),K.enc x]).run P w=.ok (.tuple #[]) w'∧MapK K w' B (fun y => if y=x then none else f y)∧Kept (oneB B) w w'∧w'.heap.size=w.heap.size:=by
 obtain ⟨es,clock,hb,hs,h1,h2⟩:=h;rcases findNow_spec (K.isKey x) es.toList 0 (fun y hy => by obtain ⟨j,hj,_⟩:=h1 y hy;rw [hj];exact K.isKey j) with ⟨hfind,hne⟩ | ⟨j,e0,hfind,h3,h4⟩
 ·refine ⟨Go.ChangeMaps.setBlock w B (.map es clock),?_,⟨_,_,(MapKept.heap_set hb).1,hs,?_,?_⟩,kept_block hb,by simp [Go.ChangeMaps.setBlock]⟩
  ·simp [Builtin.delete_,run_underlying ht,MapKept.run_getObj_map hb,run_checkKey hk (K.isKey x),run_findKey hk hfind,MapKept.run_setObj_map _ hb,Result.andThen,Go.ChangeMaps.setBlock]
  ·intro y hy
   obtain ⟨i,hi,hf⟩:=h1 y hy;refine ⟨i,hi,?_⟩;show (if i=x then none else f i)=_
   rw [if_neg (fun e => hne y hy (by rw [hi,e]))]
   exact hf
  ·intro i u hi
   have hi:(if i=x then none else f i)=some u:=hi
   by_cases hix:i=x
   ·rw [if_pos hix] at hi;cases hi
   ·rw [if_neg hix] at hi
    exact h2 i u hi
 ·rw [Nat.zero_add] at hfind
  have hjl:j < es.toList.length:=(List.getElem?_eq_some_iff.1 h3).1;have hjs:j < es.size:=by simpa using hjl
  have hsub:(es.eraseIdxIfInBounds j).toList=es.toList.eraseIdx j:=by
   unfold Array.eraseIdxIfInBounds;rw [dif_pos hjs];simp
  have hkey:∀ i y,es.toList[i]? = some y → y.key=K.enc x → i=j:=fun i y hi hy => by
   have hkj:(es.toList.map (·.key))[j]? = some (K.enc x):=by rw [List.getElem?_map,h3];simp [h4]
   have hki:(es.toList.map (·.key))[i]? = some (K.enc x):=by rw [List.getElem?_map,hi];simp [hy]
   have hjl:j < (es.toList.map (·.key)).length:=(List.getElem?_eq_some_iff.1 hkj).1
   have hil:i < (es.toList.map (·.key)).length:=(List.getElem?_eq_some_iff.1 hki).1
   have e1:(es.toList.map (·.key))[j]=(es.toList.map (·.key))[i]:=by
    have a1:=(List.getElem?_eq_some_iff.1 hkj).2;have a2:=(List.getElem?_eq_some_iff.1 hki).2;rw [a1,a2]
   exact ((List.getElem_inj hs.2.2).1 e1).symm
  refine ⟨Go.ChangeMaps.setBlock w B (.map (es.eraseIdxIfInBounds j) clock),?_,⟨_,_,(MapKept.heap_set hb).1,stamped_erase hs j,?_,?_⟩,kept_block hb,by simp [Go.ChangeMaps.setBlock]⟩
  ·simp [Builtin.delete_,run_underlying ht,MapKept.run_getObj_map hb,run_checkKey hk (K.isKey x),run_findKey hk hfind,MapKept.run_setObj_map _ hb,Result.andThen,Go.ChangeMaps.setBlock]
  ·intro y hy
   rw [hsub] at hy;obtain ⟨i,hne,hi⟩:=List.mem_eraseIdx_iff_getElem?.1 hy;obtain ⟨a,ha,hf⟩:=h1 y (List.mem_of_getElem? hi);refine ⟨a,ha,?_⟩;show (if a=x then none else f a)=_
   rw [if_neg (fun hax => hne (hkey i y hi (by rw [ha,hax])))]
   exact hf
  ·intro a u ha
   have ha:(if a=x then none else f a)=some u:=ha
   by_cases hax:a=x
   ·rw [if_pos hax] at ha;cases ha
   ·rw [if_neg hax] at ha
    obtain ⟨y,hy,hyk⟩:=h2 a u ha;refine ⟨y,?_,hyk⟩;rw [hsub];obtain ⟨i,hi⟩:=List.getElem?_of_mem hy;refine List.mem_eraseIdx_iff_getElem?.2 ⟨i,fun hij => hax (K.inj _ _ ?_),hi⟩
    rw [← hyk,← h4];rw [hij,h3] at hi
    cases hi
    rfl
end
section
variable {α:Type} [DecidableEq α] {K:Keying α} {P:Program} {w:World} {ops:Array Oper} {rest:List Oper} {o:Oper} {a:Act} {Q:Exit → Act → World → Prop} {f:α → Option Value} {t k e:TypeId}
theorem wpList_delK (hg:o.guard=none) (m x:Operand) (t k:TypeId) (hop:o.op=Op.call { callee:=Callee.builtin Builtin.delete,args:=#[m,x],argTypes:=#[t,k] }) (e:TypeId) (ht:P.underlying t=some (.map k e)) (hk:P.underlying k=some K.kind)
 (B:Nat) (h:MapK K w B f) (hm:a.eval m=.map (some B)) (key:α) (hx:a.eval x=K.enc key)
 (hK:∀ w',Hid (MapK K w' B (fun y => if y=key then none else f y)) → Hid (Kept (oneB B) w w') → w'.heap.size=w.heap.size → wpList P ops Q rest (a.put o.dst (.tuple #[])) w'):wpList P ops Q (o :: rest) a w:=by
 refine wpList_plain hg fun K' hK' => ?_
 obtain ⟨w',hrun,h1,h2,h3⟩:=h.del ht hk key o.type;unfold Oper.wp;simp [execOp,hop,resolve,invoke,builtin,hm,hx,hrun,Result.andThen];exact hK' _ _ (hK w' (Lib.hid h1) (Lib.hid h2) h3)
end
end Go.Proofs.Ytfpoipamioaklaa.Mk
end
section
namespace Go.Proofs.Ytfpoipamioaklaa.Byt
open Go.ChangeShapes Go.WideShapes Go.ChangeAt Go.RowKit Base
set_option linter.unusedVariables false
structure Since (w:World) where
 w':World
 bel:Below w.heap.size w w'
instance (w:World):Inhabited (Since w):=⟨⟨w,Below.refl _ _⟩⟩
theorem since_cell {w:World} {b o:Nat} {v:Value} (h:w.cell? ⟨b,o,none⟩=some v):∀ p:Since w,p.w'.cell? ⟨b,o,none⟩=some v:=
 fun p => (p.bel.cell (p:=⟨b,o,none⟩) (World.block_lt_of_cell? _ _ h)).trans h
theorem wp_region_since {P:Program} {id:Nat} {Q:Exit → Act → World → Prop} {a:Act} {w:World} {l:List Oper} (hm:P.follows .mixedOrders=true) (hB:Region.lexB .any l.toArray=true)
 (h:wpQuiet P l.toArray (fun w' => ∃ p:Since w,w'=p.w') (fun a' => ∀ w',(∃ p:Since w,w'=p.w') → Q .normal a' w') l a):(Code.region id l.toArray true).wp P Q a w:=
 wp_region_quiet (C:=fun w' => ∃ p:Since w,w'=p.w') hm hB ⟨⟨{ w with drawn:=w.drawn+1 },⟨rfl,rfl,rfl,Nat.le_refl _,fun _ _ => rfl⟩⟩,rfl⟩ (by simpa using h)
theorem Calls.since_of {P:Program} {f:FuncId} {args:Array Value} {w:World} {p:Since w} {v:Value}
 (h:Calls P f args p.w' fun e w' => e=.returned v∧Below p.w'.heap.size p.w' w'):Calls P f args p.w' fun e w'' => e=.returned v ∧ ∃ q:Since w,w''=q.w':=
 h.mono fun _ w'' ⟨he,hb⟩ => ⟨he,⟨w'',p.bel.trans (hb.mono p.bel.size)⟩,rfl⟩
theorem Calls.since_same {P:Program} {f:FuncId} {args:Array Value} {w:World} {p:Since w} {v:Value}
 (h:Calls P f args p.w' fun e w' => e=.returned v∧p.w'=w'):Calls P f args p.w' fun e w'' => e=.returned v ∧ ∃ q:Since w,w''=q.w':=
 h.mono fun _ w'' ⟨he,hb⟩ => ⟨he,p,hb.symm⟩
theorem since_bel {w wq:World} (h:∃ p:Since w,wq=p.w'):Below w.heap.size w wq:=by
 obtain ⟨p,rfl⟩:=h;exact p.bel
end Go.Proofs.Ytfpoipamioaklaa.Byt
end
section
namespace Go.Proofs.Ytfpoipamioaklaa.Mp
open Go.ChangeShapes Go.WideShapes Go.ChangeAt Go.RowKit Base Byt Go.Lib
set_option linter.unusedVariables false
def stillN (n:Nat) (listed:Array Bool):Nat:=((List.range n).filter fun i => !listed.getD i true).length
theorem listed_get {listed:Array Bool} {i:Nat} (hi:i < listed.size) (j:Nat) (d:Bool):(listed.setIfInBounds i true).getD j d=if j=i then true else listed.getD j d:=by
 by_cases h:j=i
 ·subst h;simp [hi]
 ·simp [h,Array.getElem?_setIfInBounds_ne (Ne.symm h)]
theorem lt_of_unlisted {listed:Array Bool} {i:Nat} (h:listed.getD i true=false):i < listed.size:=by
 rcases Nat.lt_or_ge i listed.size with h' | h'
 ·exact h'
 ·simp [Array.getElem?_eq_none h'] at h
theorem wpAny_inv {P:Program} {md:Region.Mode} {ops:Array Oper} {Q:Exit → Act → World → Prop} (I:Array Bool → Act → World → Prop)
 (hstep:∀ listed a w i,I listed a w → i ∈ Region.ready md ops listed → wpOp P ops Q i (I (listed.setIfInBounds i true)) a w)
 (hdone:∀ listed a w,I listed a w → Region.ready md ops listed=[] → Q .normal a w) :
 ∀ (fuel:Nat) (listed:Array Bool) (a:Act) (w:World),stillN ops.size listed≤fuel → I listed a w → wpAny P md ops Q fuel listed a w:=by
 intro fuel
 induction fuel with
 | zero =>
   intro listed a w hn hI
   have hr:Region.ready md ops listed=[]:=by
    rw [List.eq_nil_iff_forall_not_mem];intro i hi;have h1:=mem_ready.1 hi;obtain ⟨o,ho,_⟩:=h1.2;have h2:i ∈ (List.range ops.size).filter fun i => !listed.getD i true:=List.mem_filter.2 ⟨List.mem_range.2 (Array.getElem?_eq_some_iff.1 ho).1,by rw [h1.1];rfl⟩
    have h3:(List.range ops.size).filter (fun i => !listed.getD i true)=[]:=List.eq_nil_of_length_eq_zero (by simpa [stillN] using hn)
    rw [h3] at h2
    cases h2
   exact ⟨hr,hdone _ _ _ hI hr⟩
 | succ fuel ih =>
   intro listed a w hn hI;refine ⟨fun hr => hdone _ _ _ hI hr,fun i hi => ?_⟩
   refine wpOp_mono (fun a' w' h => ih _ _ _ ?_ h) (hstep _ _ _ _ hI hi)
   have h1:=mem_ready.1 hi;obtain ⟨o,ho,_⟩:=h1.2;have hlt:=lt_of_unlisted h1.1
   have h2:stillN ops.size (listed.setIfInBounds i true) < stillN ops.size listed:=by
    unfold stillN;refine filter_lt _ _ (fun x hx => ?_) i (by rw [h1.1];rfl) (by rw [listed_get hlt,if_pos rfl];rfl) _ (List.mem_range.2 (Array.getElem?_eq_some_iff.1 ho).1)
    rw [listed_get hlt] at hx
    split at hx
    ·cases hx
    ·exact hx
   omega
theorem all_listed {md:Region.Mode} {ops:Array Oper} {listed:Array Bool} (hs:listed.size=ops.size) (hd:∀ i o,ops[i]? = some o → ∀ e ∈ o.after,Region.binds md e=true → e.on < i) (hr:Region.ready md ops listed=[]) :
 ∀ n i,i < n → i < ops.size → listed.getD i false=true:=by
 intro n
 induction n with
 | zero => intro i h;omega
 | succ n ih =>
   intro i h hi
   by_cases hin:i < n
   ·exact ih i hin hi
   ·obtain rfl:i=n:=by omega
    cases hl:listed.getD i false with
    | true => rfl
    | false =>
      have h1:listed.getD i true=false:=by
       simp only [Array.getD_eq_getD_getElem?] at hl ⊢;rw [Array.getElem?_eq_getElem (by omega)] at hl ⊢
       exact hl
      have:i ∈ Region.ready md ops listed:=mem_ready.2 ⟨h1,ops[i],Array.getElem?_eq_getElem hi,fun e he hb => ih e.on (hd i _ (Array.getElem?_eq_getElem hi) e he hb) (by
       have:=hd i _ (Array.getElem?_eq_getElem hi) e he hb
       omega)⟩
      rw [hr] at this
      cases this
theorem put_eval {a:Act} {d t:Nat} (v:Value) (hd:d < a.tmps.size):(a.put (some d) v).eval (.tmp t)=if t=d then v else a.eval (.tmp t):=by
 show ((a.tmps.setIfInBounds d v).getD t undef)=_
 by_cases h:t=d
 ·subst h;simp [hd]
 ·rw [if_neg h]
  show _=a.tmps.getD t undef;simp [Array.getElem?_setIfInBounds_ne (Ne.symm h)]
theorem put_size (a:Act) (d:Option Nat) (v:Value):(a.put d v).tmps.size=a.tmps.size:=by
 cases d<;>simp [Act.put]
theorem put_defers (a:Act) (d:Option Nat) (v:Value):(a.put d v).defers=a.defers:=by
 cases d<;>rfl
theorem getD_flip {listed:Array Bool} {i:Nat} (h:listed.getD i true=false):listed.getD i false=false:=by
 have:=lt_of_unlisted h;simp only [Array.getD_eq_getD_getElem?] at h ⊢;rw [Array.getElem?_eq_getElem this] at h ⊢;exact h
end Go.Proofs.Ytfpoipamioaklaa.Mp
end
section
namespace Go.Proofs.Ytfpoipamioaklaa.Mp
open Go.ChangeShapes Go.WideShapes Go.ChangeAt Go.RowKit Base Byt
set_option linter.unusedVariables false
structure RI (ops:Array Oper) (V:Nat → Value) (a0:Act) (W:Array Bool → World → Prop) (listed:Array Bool) (a:Act) (w:World):Prop where
 ls:listed.size=ops.size
 ts:a.tmps.size=a0.tmps.size
 df:a.defers=a0.defers
 done:∀ j o d,ops[j]? = some o → o.dst=some d → listed.getD j false=true → a.eval (.tmp d)=V j
 same:∀ t,(∀ j o,ops[j]? = some o → o.dst=some t → listed.getD j false=false) → a.eval (.tmp t)=a0.eval (.tmp t)
 wd:W listed w
def apartB (ops:Array Oper) (n:Nat):Bool:=
 (ops.toList.zipIdx.all fun x => x.1.guard.isNone && (x.1.after.all fun e => decide (e.on < x.2)) && (match x.1.dst with
  | none => true
  | some d => decide (d < n) && ops.toList.zipIdx.all fun y => y.2 == x.2 || y.1.dst != some d))
theorem apartB_spec {ops:Array Oper} {n:Nat} (h:apartB ops n=true):∀ i o,ops[i]? = some o →
 o.guard=none∧(∀ e ∈ o.after,Region.binds .any e=true → e.on < i)∧(∀ d,o.dst=some d → d < n ∧ ∀ j oj,ops[j]? = some oj → oj.dst=some d → j=i):=by
 intro i o ho;unfold apartB at h;rw [List.all_eq_true] at h
 have hm:∀ (j:Nat) (oj:Oper),ops[j]? = some oj → (oj,j) ∈ ops.toList.zipIdx:=fun j oj hj => by
  rw [List.mem_iff_getElem?];exact ⟨j,by simp [hj]⟩
 have h1:=h (o,i) (hm i o ho);simp only [Bool.and_eq_true] at h1;obtain ⟨⟨h2,h3⟩,h4⟩:=h1;refine ⟨by simpa using h2,fun e he _ => by simpa using Array.all_eq_true_iff_forall_mem.1 h3 e he,fun d hd => ?_⟩
 rw [hd] at h4;simp only [Bool.and_eq_true,decide_eq_true_eq] at h4;refine ⟨h4.1,fun j oj hj hdj => ?_⟩
 have h5:=List.all_eq_true.1 h4.2 (oj,j) (hm j oj hj);simp only [Bool.or_eq_true,beq_iff_eq,bne_iff_ne] at h5;rcases h5 with h5 | h5
 ·exact h5
 ·exact absurd hdj h5
def hasDep (ops:Array Oper) (j i:Nat):Bool:=((ops[j]?).map fun o => o.after.any fun e => e.on == i && Region.binds .any e).getD false
def freeB (ops:Array Oper) (t:Nat):Bool:=ops.toList.all fun o => o.dst != some t
section
variable {ops:Array Oper} {V:Nat → Value} {a0 a:Act} {W:Array Bool → World → Prop} {listed:Array Bool} {w:World}
theorem RI.get (h:RI ops V a0 W listed a w) {j i d:Nat} {o:Oper} (ho:ops[j]? = some o) (hdep:∀ e ∈ o.after,Region.binds .any e=true → listed.getD e.on false=true) (hd:hasDep ops j i=true) (hdst:(ops[i]?).bind (·.dst)=some d):a.eval (.tmp d)=V i:=by
 unfold hasDep at hd;rw [ho] at hd;obtain ⟨e,he,hb⟩:=Array.any_eq_true'.1 (show o.after.any _=true from hd)
 simp only [Bool.and_eq_true,beq_iff_eq] at hb;have hl:=hdep e he hb.2;rw [hb.1] at hl
 cases hoi:ops[i]? with
 | none => rw [hoi] at hdst;cases hdst
 | some oi =>
   rw [hoi] at hdst;exact h.done i oi d hoi hdst hl
theorem RI.old (h:RI ops V a0 W listed a w) {t:Nat} (hf:freeB ops t=true):a.eval (.tmp t)=a0.eval (.tmp t):=
 h.same t fun j o ho hd => by
  unfold freeB at hf;rw [List.all_eq_true] at hf;have:=hf o (by rw [Array.mem_toList_iff];exact Array.mem_of_getElem? ho)
  rw [hd] at this;simp at this
end
def regionsOf:Code → List (Nat × Array Oper)
 | .region id ops _ => [(id,ops)]
 | .seq a b => regionsOf a++regionsOf b
 | .cond _ a b => regionsOf a++regionsOf b
 | .block _ c => regionsOf c
 | .loop c => regionsOf c
 | _ => []
def regionAt (f:Func) (id:Nat):Array Oper:=
 match f.body with
 | some c => (((regionsOf c).find? fun x => x.1 == id).map (·.2)).getD #[]
 | none => #[]
section
variable {P:Program} {o:Oper} {a:Act} {w:World} {K:Act → World → Prop} {Q:Exit → Act → World → Prop}
theorem wp_move (x:Operand) (v:Value) (ho:o.op=.move x ∨ o.op=.assign x) (hx:a.eval x=v) (h:K (a.put o.dst v) w):Oper.wp P o a w K Q:=by
 unfold Oper.wp;rcases ho with ho | ho
 ·simp [execOp,ho,hx,Oper.upon_value];exact h
 ·simp [execOp,ho,hx,Oper.upon_value];exact h
theorem wp_run (v:Value) (hr:(execOp a.eval o).run P w=.ok (.value v) w) (h:K (a.put o.dst v) w):Oper.wp P o a w K Q:=by
 unfold Oper.wp;rw [hr,Oper.upon_value];exact h
theorem evalF (a:Act) (f:FuncId):a.eval (.func f)=.func (.func f) #[] #[]:=rfl
end
end Go.Proofs.Ytfpoipamioaklaa.Mp
end
section
namespace Go.Proofs.Ytfpoipamioaklaa.Mp
open Go.ChangeShapes Go.WideShapes Go.ChangeAt Go.RowKit Base Byt
set_option linter.unusedVariables false
def apartG (ops:Array Oper) (n:Nat):Bool:=
 (ops.toList.zipIdx.all fun x => x.1.guard.isNone && (x.1.after.all fun e => decide (e.on < x.2) || !Region.binds .any e) && (match x.1.dst with
  | none => true
  | some d => decide (d < n) && ops.toList.zipIdx.all fun y => y.2 == x.2 || y.1.dst != some d))
theorem apartG_spec {ops:Array Oper} {n:Nat} (h:apartG ops n=true):∀ i o,ops[i]? = some o →
 o.guard=none∧(∀ e ∈ o.after,Region.binds .any e=true → e.on < i)∧(∀ d,o.dst=some d → d < n ∧ ∀ j oj,ops[j]? = some oj → oj.dst=some d → j=i):=by
 intro i o ho;unfold apartG at h;rw [List.all_eq_true] at h
 have hm:∀ (j:Nat) (oj:Oper),ops[j]? = some oj → (oj,j) ∈ ops.toList.zipIdx:=fun j oj hj => by
  rw [List.mem_iff_getElem?];exact ⟨j,by simp [hj]⟩
 have h1:=h (o,i) (hm i o ho);simp only [Bool.and_eq_true] at h1;obtain ⟨⟨h2,h3⟩,h4⟩:=h1;refine ⟨by simpa using h2,fun e he hb => ?_,fun d hd => ?_⟩
 ·have h5:=Array.all_eq_true_iff_forall_mem.1 h3 e he
  rw [hb] at h5
  simpa using h5
 rw [hd] at h4;simp only [Bool.and_eq_true,decide_eq_true_eq] at h4;refine ⟨h4.1,fun j oj hj hdj => ?_⟩
 have h5:=List.all_eq_true.1 h4.2 (oj,j) (hm j oj hj);simp only [Bool.or_eq_true,beq_iff_eq,bne_iff_ne] at h5;rcases h5 with h5 | h5
 ·exact h5
 ·exact absurd hdj h5
theorem RI.next {ops:Array Oper} {V:Nat → Value} {a0 a:Act} {W W':Array Bool → World → Prop} {listed:Array Bool} {w w':World} (n:Nat) (hap:apartG ops n=true) (hn:n≤a0.tmps.size) (h:RI ops V a0 W listed a w)
 {i:Nat} {o:Oper} (ho:ops[i]? = some o) (hun:listed.getD i true=false) (hw:W' (listed.setIfInBounds i true) w'):RI ops V a0 W' (listed.setIfInBounds i true) (a.put o.dst (V i)) w':=by
 have hlt:=lt_of_unlisted hun;obtain ⟨hg,_,hd⟩:=apartG_spec hap i o ho;refine ⟨by simpa using h.ls,by rw [put_size];exact h.ts,by rw [put_defers];exact h.df,fun j oj d hj hdj hl => ?_,fun t ht => ?_,hw⟩
 ·cases hod:o.dst with
  | none =>
    have hji:j≠i:=fun e => by
     subst e;rw [ho] at hj
     cases hj
     rw [hod] at hdj
     cases hdj
    rw [listed_get hlt,if_neg hji] at hl;exact h.done j oj d hj hdj hl
  | some d' =>
    obtain ⟨hdn,huni⟩:=hd d' hod;have hsz:d' < a.tmps.size:=by rw [h.ts];exact Nat.lt_of_lt_of_le hdn hn
    rw [put_eval _ hsz]
    by_cases hdd:d=d'
    ·have:=huni j oj hj (by rw [← hdd];exact hdj)
     rw [if_pos hdd,this]
    ·rw [if_neg hdd]
     have hji:j≠i:=fun e => by
      subst e;rw [ho] at hj
      cases hj
      rw [hod] at hdj;exact hdd (Option.some.inj hdj).symm
     rw [listed_get hlt,if_neg hji] at hl;exact h.done j oj d hj hdj hl
 ·have hti:o.dst≠some t:=fun e => by
   have:=ht i o ho e;rw [listed_get hlt,if_pos rfl] at this
   cases this
  have hold:a.eval (.tmp t)=a0.eval (.tmp t):=h.same t fun j oj hj hdj => by
   have h1:=ht j oj hj hdj;rw [listed_get hlt] at h1
   split at h1
   ·cases h1
   ·exact h1
  cases hod:o.dst with
  | none => exact hold
  | some d' =>
    obtain ⟨hdn,_⟩:=hd d' hod;rw [put_eval _ (by rw [h.ts];exact Nat.lt_of_lt_of_le hdn hn),if_neg (fun e => hti (by rw [hod,e]))]
    exact hold
theorem wpAny_ghost {Γ:Type} {P:Program} {ops:Array Oper} {Q:Exit → Act → World → Prop} (V:Γ → Nat → Value) (γ0:Γ) (a0:Act) (W:Γ → Array Bool → World → Prop) (n:Nat) (hap:apartG ops n=true) (hn:n≤a0.tmps.size)
 (hstep:∀ γ listed a w j o,RI ops (V γ) a0 (W γ) listed a w → ops[j]? = some o → listed.getD j true=false → (∀ e ∈ o.after,Region.binds .any e=true → listed.getD e.on false=true) →
  Oper.wp P o a w (fun a' w' => ∃ γ',(∀ i,listed.getD i false=true → V γ' i=V γ i)∧a'=a.put o.dst (V γ' j)∧W γ' (listed.setIfInBounds j true) w') Q)
 (hdone:∀ γ listed a w,RI ops (V γ) a0 (W γ) listed a w → (∀ j,j < ops.size → listed.getD j false=true) → Q .normal a w)
 {w:World} (h0:W γ0 (Array.replicate ops.size false) w):wpAny P .any ops Q ops.size (Array.replicate ops.size false) a0 w:=by
 have sp:=apartG_spec hap
 have no:∀ j,(Array.replicate ops.size false).getD j false=false:=fun j => by
  rw [Array.getD_eq_getD_getElem?,Array.getElem?_replicate]
  split<;>rfl
 refine wpAny_inv (fun listed a w' => ∃ γ,RI ops (V γ) a0 (W γ) listed a w') (fun listed a w' i h hr => ?_) (fun listed a' w' h hr => ?_) _ _ _ _ ?_ ?_
 ·obtain ⟨γ,h⟩:=h
  obtain ⟨hun,o,ho,hdep⟩:=mem_ready.1 hr;obtain ⟨hg,_,hd⟩:=sp i o ho;refine wpOp_step ho fun K hK => ?_
  rw [if_pos (by simp [Region.wanted,hg])]
  refine Oper.wp_mono (fun a' w'' hh => hK a' w'' ?_) (hstep γ listed a w' i o h ho hun hdep)
  obtain ⟨γ',hag,rfl,hw⟩:=hh;have h':RI ops (V γ') a0 (fun _ _ => True) listed a w':=⟨h.ls,h.ts,h.df,fun j oj d hj hdj hl => (h.done j oj d hj hdj hl).trans (hag j hl).symm,h.same,trivial⟩
  exact ⟨γ',h'.next n hap hn ho hun hw⟩
 ·obtain ⟨γ,h⟩:=h
  exact hdone γ _ _ _ h fun j hj => all_listed h.ls (fun i o ho => (sp i o ho).2.1) hr (j+1) j (by omega) hj
 ·unfold stillN
  exact Nat.le_trans (List.length_filter_le _ _) (by rw [List.length_range];exact Nat.le_refl _)
 ·exact ⟨γ0,Array.size_replicate,rfl,rfl,fun j o d _ _ hl => (by rw [no] at hl;cases hl),fun t _ => rfl,h0⟩
def dstAt (ops:Array Oper) (i:Nat):Option Nat:=(ops[i]?).bind fun o => o.dst
def putAll (ops:Array Oper) (V:Nat → Value) (a0:Act):Nat → Act
 | 0 => a0
 | n+1 => (putAll ops V a0 n).put (dstAt ops n) (V n)
theorem put_none (a:Act) (v:Value):a.put none v=a:=rfl
theorem putAll_size (ops:Array Oper) (V:Nat → Value) (a0:Act):∀ n,(putAll ops V a0 n).tmps.size=a0.tmps.size
 | 0 => rfl
 | n+1 => by rw [putAll,put_size,putAll_size ops V a0 n]
theorem putAll_defers (ops:Array Oper) (V:Nat → Value) (a0:Act):∀ n,(putAll ops V a0 n).defers=a0.defers
 | 0 => rfl
 | n+1 => by rw [putAll,put_defers,putAll_defers ops V a0 n]
theorem put_eval_ne {a:Act} {d:Option Nat} {t:Nat} (v:Value) (h:d≠some t):(a.put d v).eval (.tmp t)=a.eval (.tmp t):=by
 cases d with
 | none => rfl
 | some d =>
   have hne:¬ d=t:=fun e => h (by rw [e])
   show ((a.tmps.setIfInBounds d v).getD t undef)=a.tmps.getD t undef;simp [Array.getElem?_setIfInBounds_ne hne]
theorem putAll_none (ops:Array Oper) (V:Nat → Value) (a0:Act) (t:Nat):∀ n,(∀ j,j < n → dstAt ops j≠some t) → (putAll ops V a0 n).eval (.tmp t)=a0.eval (.tmp t)
 | 0,_ => rfl
 | n+1,h => by
   rw [putAll,put_eval_ne _ (h n (by omega))]
   exact putAll_none ops V a0 t n fun j hj => h j (by omega)
theorem putAll_some {ops:Array Oper} (V:Nat → Value) (a0:Act) {t:Nat} (ht:t < a0.tmps.size) {i:Nat} (hi:dstAt ops i=some t) (hu:∀ j,dstAt ops j=some t → j=i):∀ n,i < n → (putAll ops V a0 n).eval (.tmp t)=V i
 | 0,h => absurd h (by omega)
 | n+1,h => by
   rw [putAll]
   by_cases hn:n=i
   ·subst hn
    rw [hi,put_eval _ (by rw [putAll_size];exact ht),if_pos rfl]
   ·rw [put_eval_ne _ (fun e => hn (hu n e))]
    exact putAll_some V a0 ht hi hu n (by omega)
theorem act_ext {a b:Act} (hs:a.tmps.size=b.tmps.size) (hd:a.defers=b.defers) (h:∀ t,a.eval (.tmp t)=b.eval (.tmp t)):a=b:=by
 obtain ⟨ta,da⟩:=a;obtain ⟨tb,db⟩:=b;obtain rfl:da=db:=hd
 congr 1
 apply Array.ext hs;intro i h1 h2;have:=h i;change ta.getD i undef=tb.getD i undef at this;rw [Array.getD_eq_getD_getElem?,Array.getD_eq_getD_getElem?,Array.getElem?_eq_getElem h1,Array.getElem?_eq_getElem h2] at this;exact this
theorem dep_listed {ops:Array Oper} {listed:Array Bool} {j i:Nat} {o:Oper} (ho:ops[j]? = some o) (hdep:∀ e ∈ o.after,Region.binds .any e=true → listed.getD e.on false=true) (hd:hasDep ops j i=true):listed.getD i false=true:=by
 unfold hasDep at hd;rw [ho] at hd;obtain ⟨e,he,hb⟩:=Array.any_eq_true'.1 (show o.after.any _=true from hd)
 simp only [Bool.and_eq_true,beq_iff_eq] at hb;have hl:=hdep e he hb.2
 rwa [hb.1] at hl
theorem wp_callE {P:Program} {o:Oper} {a:Act} {w:World} {K:Act → World → Prop} {Q:Exit → Act → World → Prop} (f:FuncId) (xs:Array Operand) (ts:Array TypeId) (ho:o.op=.call { callee:=.value (.func f),args:=xs,argTypes:=ts }) (vs:Array Value) (hx:xs.map a.eval=vs)
 (hf:∀ args w,(callFunc f args).run P w=.ok (.enter f args) w) (R:Value → World → Prop) (hc:Calls P f vs w fun e w' => ∃ v,e=.returned v∧R v w') (h:∀ v w',R v w' → K (a.put o.dst v) w'):Oper.wp P o a w K Q:=by
 unfold Oper.wp;simp [execOp,ho,resolve,invoke,hx,evalF,Deferred.ofValue,hf,Oper.upon];refine hc.mono fun e w' he => ?_
 obtain ⟨v,rfl,hR⟩:=he;exact h v w' hR
theorem done_putAllG {ops:Array Oper} {V:Nat → Value} {a0 a:Act} {W:Array Bool → World → Prop} {listed:Array Bool} {w:World} (n:Nat) (hap:apartG ops n=true) (hn:n≤a0.tmps.size) (h:RI ops V a0 W listed a w) (hall:∀ j,j < ops.size → listed.getD j false=true):a=putAll ops V a0 ops.size:=by
 have sp:=apartG_spec hap;refine act_ext (by rw [h.ts,putAll_size]) (by rw [h.df,putAll_defers]) fun t => ?_
 by_cases hex:∃ i,dstAt ops i=some t
 ·obtain ⟨i,hi⟩:=hex
  cases ho:ops[i]? with
  | none => rw [dstAt,ho] at hi;cases hi
  | some o =>
    have hd:o.dst=some t:=by rw [dstAt,ho] at hi;exact hi
    have hlt:=(Array.getElem?_eq_some_iff.1 ho).1;obtain ⟨h1,h2⟩:=(sp i o ho).2.2 t hd
    rw [h.done i o t ho hd (hall i hlt),putAll_some V a0 (Nat.lt_of_lt_of_le h1 hn) hi (fun j hj => by
     cases hoj:ops[j]? with
     | none => rw [dstAt,hoj] at hj;cases hj
     | some oj => exact h2 j oj hoj (by rw [dstAt,hoj] at hj;exact hj)) _ hlt]
 ·rw [putAll_none ops V a0 t _ fun j _ e => hex ⟨j,e⟩]
  exact h.same t fun j o ho hd => absurd ⟨j,by rw [dstAt,ho];exact hd⟩ hex
end Go.Proofs.Ytfpoipamioaklaa.Mp
end
