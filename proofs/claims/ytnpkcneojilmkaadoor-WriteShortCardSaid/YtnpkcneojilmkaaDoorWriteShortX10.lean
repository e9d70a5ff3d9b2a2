/- Texts of this seat, merged: what the proof reaches. -/
import Derived.Test.YtnpkcneojilmkaaDoorWriteShortX8
import Derived.Laws.AppendOwnNone
import Derived.BigRegion
import Derived.RegionTactic
section
namespace Go.Proofs.YtnpkcneojilmkaaDoor.Byt
open Go.ChangeShapes Go.WideShapes Go.ChangeAt Go.RowKit Base Go.Lib
set_option linter.unusedVariables false
def nums (bs:List UInt8):List Int:=bs.map fun x => (x.toNat:Int)
theorem nums_length (bs:List UInt8):(nums bs).length=bs.length:=by simp [nums]
theorem nums_bd (bs:List UInt8):∀ x ∈ nums bs,0≤x∧x < 256:=fun x hx => by
 obtain ⟨y,_,rfl⟩:=List.mem_map.1 hx;have:=y.toNat_lt;omega
theorem bytesOf_nums (bs:List UInt8):bytesOf (nums bs)=bs:=by
 unfold bytesOf nums;rw [List.map_map]
 conv => rhs;rw [← List.map_id bs]
 apply List.map_congr_left;intro x _;simp
theorem nums_getElem (bs:List UInt8) (j:Nat) (hj:j < bs.length):((nums bs).map (Value.int .u8))[j]? = some (.int .u8 (bs.getD j 0).toNat):=by
 simp [nums,List.getD,hj]
theorem append_bytes {P:Program} {w:World} {ops:Array Oper} {rest:List Oper} {o:Oper} {a:Act} {Q:Exit → Act → World → Prop} (hgd:o.guard=none) (s x:Operand) (t:TypeId)
 (ho:o.op=.call { callee:=.builtin .append,args:=#[s,x],argTypes:=#[t,t] })
 (base:Nat) (e:TypeId) (i:TypeInfo) (ht:P.underlying t=some (.slice e)) (hi:P.info? e=some i) (hz:i.zero=some (.int .u8 0)) (hsize:i.size=1) (hby:i.bytes=1)
 (v:Value) (n:Nat) (xs:List Int) (hs:a.eval s=v) (hown:w.ownsRow base e 1 v n (xs.map (Value.int .u8)))
 (p:Option Addr) (m c:Nat) (bs:List UInt8) (hx:a.eval x=.slice p m c) (hb:BAt w p m bs) (hl:bs.length=m) (hsum:n+m≤140737488351232) (hbase:base≤w.heap.size)
 (h:∀ v' w',w'.ownsRow base e 1 v' (n+m) ((xs++nums bs).map (Value.int .u8)) → w.grownBy w' v.ownBlock → wpList P ops Q rest (a.put o.dst v') w'):wpList P ops Q (o :: rest) a w:=by
 rcases p with _ | ad
 ·have hm:m=0:=by
   rcases Nat.eq_zero_or_pos m with h0 | h0
   ·exact h0
   ·obtain ⟨_,_,he,_⟩:=hb h0
    cases he
  subst hm;obtain rfl:bs=[]:=List.eq_nil_of_length_eq_zero hl
  have hrun:(Builtin.append_ #[t,t] o.type #[v,.slice none 0 c]).run P w=.ok v w:=by
   rcases hown.2 with ⟨rfl,rfl⟩ | ⟨g,cap,cur,rfl,_,_,hnc,_⟩
   ·simp [Builtin.append_,run_underlying ht,sizeOf,typeInfo,hi,Builtin.lenOf,Builtin.firstCells]
   ·simp [Builtin.append_,run_underlying ht,sizeOf,typeInfo,hi,Builtin.lenOf,Builtin.firstCells,hnc,storeCells]
  refine wpList_plain hgd fun K hK => ?_
  unfold Oper.wp;simp [execOp,ho,resolve,invoke,builtin,hs,hx,hrun,Result.andThen];exact hK _ _ (h v w (by simpa [nums] using hown) (World.grownBy.refl w _))
 ·refine wpList_append_own w hgd s x t ho base e i (.int .u8 0) 1 1 ht hi hz hsize hby rfl (by decide) v n (xs.map (Value.int .u8)) hs hown ad m c ((nums bs).map (Value.int .u8)) hx (by rw [List.length_map,nums_length,hl];omega) ?_ (ints_oneCell .u8 _) (by unfold maxLen;omega) (by omega) hbase ?_
  ·intro j u hj
   have hjl:j < m:=by
    have:=(List.getElem?_eq_some_iff.1 hj).1;rw [List.length_map,nums_length,hl] at this;exact this
   obtain ⟨b,off,he,hc⟩:=hb (by omega)
   cases he
   rw [nums_getElem bs j (by omega)] at hj
   cases hj
   rw [WideShapes.add_plain];exact hc j hjl
  ·intro v' w' h1 h2 _
   rw [← List.map_append] at h1;exact h v' w' h1 h2
end Go.Proofs.YtnpkcneojilmkaaDoor.Byt
end
section
namespace Go.Proofs.YtnpkcneojilmkaaDoor.Byt
open Go.ChangeShapes Go.WideShapes Go.ChangeAt Go.RowKit Base Go.Lib
set_option linter.unusedVariables false
structure Kept (S:Nat → Prop) (w w':World):Prop where
 os:w'.os=w.os
 tape:w'.tape=w.tape
 output:w'.output=w.output
 size:w.heap.size≤w'.heap.size
 block:∀ k,k < w.heap.size → ¬ S k → w'.heap[k]? = w.heap[k]?
def noneB:Nat → Prop:=fun _ => False
def oneB (g:Nat):Nat → Prop:=fun k => k=g
section
variable {S T:Nat → Prop} {w w' w'':World}
theorem Kept.refl (S:Nat → Prop) (w:World):Kept S w w:=⟨rfl,rfl,rfl,Nat.le_refl _,fun _ _ _ => rfl⟩
theorem Kept.trans (h:Kept S w w') (k:Kept S w' w''):Kept S w w'':=
 ⟨k.os.trans h.os,k.tape.trans h.tape,k.output.trans h.output,Nat.le_trans h.size k.size,fun i hi hn => (k.block i (Nat.lt_of_lt_of_le hi h.size) hn).trans (h.block i hi hn)⟩
theorem Kept.mono (h:Kept S w w') (hs:∀ k,S k → T k):Kept T w w':=⟨h.os,h.tape,h.output,h.size,fun k hk hn => h.block k hk fun hh => hn (hs k hh)⟩
theorem Kept.of_none (h:Kept noneB w w') (S:Nat → Prop):Kept S w w':=h.mono fun _ hh => hh.elim
theorem Kept.drewN (h:Kept S w w') (n:Nat):Kept S w (w'.drewN n):=h.trans ⟨rfl,rfl,rfl,Nat.le_refl _,fun _ _ _ => rfl⟩
theorem Kept.drew (h:Kept S w w'):Kept S w w'.drew:=h.trans ⟨rfl,rfl,rfl,Nat.le_refl _,fun _ _ _ => rfl⟩
theorem Kept.alloc (h:Kept S w w') (o:Obj):Kept S w (w'.alloc o):=h.trans ⟨rfl,rfl,rfl,by simp,fun k hk _ => Below.heap_alloc _ _ _ hk⟩
theorem Kept.setCell (h:Kept S w w') {a:Addr} (ha:w.heap.size≤a.block ∨ S a.block) (v:Value):Kept S w (w'.setCell a v):=
 ⟨h.os,h.tape,h.output,by simpa using h.size,fun k hk hn => by
  rw [Below.heap_setCell _ _ _ _ (fun e => by rcases ha with ha | ha;· omega
                                              ·exact hn (e ▸ ha))]
  exact h.block k hk hn⟩
theorem Kept.below (h:Kept S w w') {B:Nat} (hB:B≤w.heap.size) (hs:∀ k,S k → B≤k):Below B w w':=
 ⟨h.os,h.tape,h.output,h.size,fun k hk => h.block k (by omega) fun hh => by have:=hs k hh;omega⟩
theorem Kept.of_below (h:Below w.heap.size w w') (S:Nat → Prop):Kept S w w':=⟨h.os,h.tape,h.output,h.size,fun k hk _ => h.block k hk⟩
theorem Kept.grown (h:Kept S w w') {row:Option Nat} (hg:w'.grownBy w'' row) (hr:∀ k,row=some k → w.heap.size≤k ∨ S k):Kept S w w'':=
 ⟨hg.os.trans h.os,hg.tape.trans h.tape,hg.output.trans h.output,Nat.le_trans h.size hg.size,fun k hk hn => by
  rw [hg.block k (Nat.lt_of_lt_of_le hk h.size) (fun e => by rcases hr k e.symm with h1 | h1;· omega
                                                             ·exact hn h1)]
  exact h.block k hk hn⟩
theorem Kept.then (h:Kept S w w') (k:Kept T w' w'') (hs:∀ i,T i → w.heap.size≤i ∨ S i):Kept S w w'':=
 ⟨k.os.trans h.os,k.tape.trans h.tape,k.output.trans h.output,Nat.le_trans h.size k.size,fun i hi hn => by
  rw [k.block i (Nat.lt_of_lt_of_le hi h.size) (fun hh => by rcases hs i hh with h1 | h1;· omega
                                                             ·exact hn h1)]
  exact h.block i hi hn⟩
theorem Kept.at (h:Kept S w w') {k:Nat} (hk:k < w.heap.size) (hn:¬ S k):w'.heap[k]? = w.heap[k]?:=h.block k hk hn
theorem Kept.some_ (h:Kept S w w') {k:Nat} {o:Obj} (hk:w.heap[k]? = some o) (hn:¬ S k):w'.heap[k]? = some o:=
 (h.block k (Array.getElem?_eq_some_iff.1 hk).1 hn).trans hk
theorem BAt.kept {p:Option Addr} {n:Nat} {bs:List UInt8} (h:BAt w p n bs) (hk:Kept S w w') (hn:0 < n → ∀ a,p=some a → ¬ S a.block):BAt w' p n bs:=fun h0 => by
 obtain ⟨b,o,rfl,hbw,hc⟩:=h.cell h0;exact ⟨b,o,rfl,fun i hi => by rw [World.cell?_of_block (hk.block b hbw (hn h0 _ rfl))];exact hc i hi⟩
theorem ownsRow_kept {base:Nat} {e:TypeId} {size:Nat} {v:Value} {n:Nat} {xs:List Value} (h:w.ownsRow base e size v n xs) (hk:Kept S w w') (hn:∀ k,v.ownBlock=some k → ¬ S k):w'.ownsRow base e size v n xs:=
 ⟨h.1,h.2.imp id fun ⟨g,cap,cur,h1,h2,h3,h4⟩ => ⟨g,cap,cur,h1,h2,hk.some_ h3 (hn g (by rw [h1];rfl)),h4⟩⟩
def IAt (w:World) (p:Option Addr) (n:Nat) (zs:List Int):Prop:=
 0 < n → ∃ b o,p=some ⟨b,o,none⟩∧b < w.heap.size ∧ ∀ i,i < n → w.cell? ⟨b,o+i,none⟩=some (.int .i64 (zs.getD i 0))
theorem IAt.kept {p:Option Addr} {n:Nat} {zs:List Int} (h:IAt w p n zs) (hk:Kept S w w') (hn:0 < n → ∀ a,p=some a → ¬ S a.block):IAt w' p n zs:=fun h0 => by
 obtain ⟨b,o,rfl,hbw,hc⟩:=h h0;exact ⟨b,o,rfl,Nat.lt_of_lt_of_le hbw hk.size,fun i hi => by rw [World.cell?_of_block (hk.block b hbw (hn h0 _ rfl))];exact hc i hi⟩
theorem own_block {base:Nat} {e:TypeId} {size:Nat} {v:Value} {n:Nat} {xs:List Value} (h:w.ownsRow base e size v n xs) {p:Option Addr} {m c:Nat} (hv:v=.slice p m c):∀ a,p=some a → base≤a.block∧a.block < w.heap.size∧v.ownBlock=some a.block:=fun a ha => by
 subst ha hv;exact ⟨(h.lt _ rfl).1,(h.lt _ rfl).2,rfl⟩
end
theorem infoU8:(Tryd.prog.info? 5).map (fun i => (i.zero,i.size,i.bytes))=some (some (.int .u8 0),1,1):=by kernel_rfl
end Go.Proofs.YtnpkcneojilmkaaDoor.Byt
end
section
namespace Go.Proofs.YtnpkcneojilmkaaDoor.Block
open Go.ChangeShapes Go.WideShapes Go.ChangeAt Go.RowKit Base Byt Go.Lib
set_option linter.unusedVariables false
structure Sv where
 p:Option Addr
 n:Nat
 c:Nat
 bs:List UInt8
 q:Option Addr
 m:Nat
 d:Nat
 zs:List Int
theorem cells_at {w:World} {g:Nat} {cs:Array Value} {e:TypeId} (h:w.heap[g]? = some (.cells cs e (0,0))) (i:Nat):w.cell? ⟨g,i,none⟩=cs[i]?:=by
 simp [World.cell?,h]
theorem cells_frozen {w:World} {g:Nat} {cs:Array Value} {e:TypeId} (h:w.heap[g]? = some (.cells cs e (0,0))) (i:Nat):w.frozen? ⟨g,i,none⟩=false:=by
 simp [World.frozen?,h]
theorem cells_set {w:World} {g:Nat} {cs:Array Value} {e:TypeId} (h:w.heap[g]? = some (.cells cs e (0,0))) (i:Nat) (v:Value) (hi:i < cs.size):(w.setCell ⟨g,i,none⟩ v).heap[g]? = some (.cells (cs.set i v hi) e (0,0)):=by
 simp only [World.setCell,Array.getElem?_modify,if_true,h];simp [Array.setIfInBounds,hi]
section
variable {w w':World} {g a t:Nat} {S:Sv}
end
def Sv.off (S:Sv) (g:Nat):Prop:=0 < S.m → ∀ x,S.q=some x → x.block≠g
section
variable {w w':World} {g a t:Nat} {S:Sv}
end
end Go.Proofs.YtnpkcneojilmkaaDoor.Block
end
section
namespace Go.Proofs.YtnpkcneojilmkaaDoor.Block
open Go.ChangeShapes Go.WideShapes Go.ChangeAt Go.RowKit Base Byt Go.Lib
set_option linter.unusedVariables false
def OwnB (w:World) (B:Nat) (v:Value) (n:Nat) (bs:List UInt8):Prop:=w.ownsRow B 5 1 v n ((nums bs).map (Value.int .u8))
theorem OwnB.kept {T:Nat → Prop} {w w':World} {B:Nat} {v:Value} {n:Nat} {bs:List UInt8} (h:OwnB w B v n bs) (hk:Kept T w w') (hn:∀ k,v.ownBlock=some k → ¬ T k):OwnB w' B v n bs:=ownsRow_kept h hk hn
theorem OwnB.slice {w:World} {B:Nat} {v:Value} {n:Nat} {bs:List UInt8} (h:OwnB w B v n bs):∃ p c,v=.slice p n c∧n≤c∧c≤maxLen∧BAt w p n bs∧bs.length=n ∧ ∀ x,p=some x → B≤x.block∧x.block < w.heap.size∧v.ownBlock=some x.block:=by
 obtain ⟨p,c,hv,h1,h2,h3,h4⟩:=bat_of_own h (nums_bd bs);rw [bytesOf_nums] at h3 h4;exact ⟨p,c,hv,h1,h2,h3,h4,own_block h hv⟩
theorem OwnB.lt {w:World} {B:Nat} {v:Value} {n:Nat} {bs:List UInt8} (h:OwnB w B v n bs):∀ k,v.ownBlock=some k → B≤k∧k < w.heap.size:=World.ownsRow.lt h
theorem OwnB.mono {w:World} {B B':Nat} {v:Value} {n:Nat} {bs:List UInt8} (h:OwnB w B v n bs) (hb:B'≤B):OwnB w B' v n bs:=
 ⟨h.1,h.2.imp id fun ⟨g,cap,cur,h1,h2,h3⟩ => ⟨g,cap,cur,h1,Nat.le_trans hb h2,h3⟩⟩
end Go.Proofs.YtnpkcneojilmkaaDoor.Block
end
section
namespace Go.Proofs.YtnpkcneojilmkaaDoor.Mp
open Go.ChangeShapes Go.WideShapes Go.ChangeAt Go.RowKit Base Byt Go.Lib
set_option linter.unusedVariables false
def stillN (n:Nat) (listed:Array Bool):Nat:=((List.range n).filter fun i => !listed.getD i true).length
theorem listed_get {listed:Array Bool} {i:Nat} (hi:i < listed.size) (j:Nat) (d:Bool):(listed.setIfInBounds i true).getD j d=if j=i then true else listed.getD j d:=by
 by_cases h:j=i
 ·subst h;simp [hi]
 ·simp [h,Array.getElem?_setIfInBounds_ne (Ne.symm h)]
theorem lt_of_unlisted {listed:Array Bool} {i:Nat} (h:listed.getD i true=false):i < listed.size:=by
 rcases Nat.lt_or_ge i listed.size with h' | h'
 ·exact h'
 ·simp [Array.getElem?_eq_none h'] at h
theorem wpAny_inv {P:Program} {md:Region.Mode} {ops:Array Oper} {Q:Exit → Act → World → Prop} (I:Array Bool → Act → World → Prop)
 (hstep:∀ listed a w i,I listed a w → i ∈ Region.ready md ops listed → wpOp P ops Q i (I (listed.setIfInBounds i true)) a w)
 (hdone:∀ listed a w,I listed a w → Region.ready md ops listed=[] → Q .normal a w) :
 ∀ (fuel:Nat) (listed:Array Bool) (a:Act) (w:World),stillN ops.size listed≤fuel → I listed a w → wpAny P md ops Q fuel listed a w:=by
 intro fuel
 induction fuel with
 | zero =>
   intro listed a w hn hI
   have hr:Region.ready md ops listed=[]:=by
    rw [List.eq_nil_iff_forall_not_mem];intro i hi;have h1:=mem_ready.1 hi;obtain ⟨o,ho,_⟩:=h1.2;have h2:i ∈ (List.range ops.size).filter fun i => !listed.getD i true:=List.mem_filter.2 ⟨List.mem_range.2 (Array.getElem?_eq_some_iff.1 ho).1,by rw [h1.1];rfl⟩
    have h3:(List.range ops.size).filter (fun i => !listed.getD i true)=[]:=List.eq_nil_of_length_eq_zero (by simpa [stillN] using hn)
    rw [h3] at h2
    cases h2
   exact ⟨hr,hdone _ _ _ hI hr⟩
 | succ fuel ih =>
   intro listed a w hn hI;refine ⟨fun hr => hdone _ _ _ hI hr,fun i hi => ?_⟩
   refine wpOp_mono (fun a' w' h => ih _ _ _ ?_ h) (hstep _ _ _ _ hI hi)
   have h1:=mem_ready.1 hi;obtain ⟨o,ho,_⟩:=h1.2;have hlt:=lt_of_unlisted h1.1
   have h2:stillN ops.size (listed.setIfInBounds i true) < stillN ops.size listed:=by
    unfold stillN;refine filter_lt _ _ (fun x hx => ?_) i (by rw [h1.1];rfl) (by rw [listed_get hlt,if_pos rfl];rfl) _ (List.mem_range.2 (Array.getElem?_eq_some_iff.1 ho).1)
    rw [listed_get hlt] at hx
    split at hx
    ·cases hx
    ·exact hx
   omega
theorem all_listed {md:Region.Mode} {ops:Array Oper} {listed:Array Bool} (hs:listed.size=ops.size) (hd:∀ i o,ops[i]? = some o → ∀ e ∈ o.after,Region.binds md e=true → e.on < i) (hr:Region.ready md ops listed=[]) :
 ∀ n i,i < n → i < ops.size → listed.getD i false=true:=by
 intro n
 induction n with
 | zero => intro i h;omega
 | succ n ih =>
   intro i h hi
   by_cases hin:i < n
   ·exact ih i hin hi
   ·obtain rfl:i=n:=by omega
    cases hl:listed.getD i false with
    | true => rfl
    | false =>
      have h1:listed.getD i true=false:=by
       simp only [Array.getD_eq_getD_getElem?] at hl ⊢;rw [Array.getElem?_eq_getElem (by omega)] at hl ⊢
       exact hl
      have:i ∈ Region.ready md ops listed:=mem_ready.2 ⟨h1,ops[i],Array.getElem?_eq_getElem hi,fun e he hb => ih e.on (hd i _ (Array.getElem?_eq_getElem hi) e he hb) (by
       have:=hd i _ (Array.getElem?_eq_getElem hi) e he hb
       omega)⟩
      rw [hr] at this
      cases this
theorem put_eval {a:Act} {d t:Nat} (v:Value) (hd:d < a.tmps.size):(a.put (some d) v).eval (.tmp t)=if t=d then v else a.eval (.tmp t):=by
 show ((a.tmps.setIfInBounds d v).getD t undef)=_
 by_cases h:t=d
 ·subst h;simp [hd]
 ·rw [if_neg h]
  show _=a.tmps.getD t undef;simp [Array.getElem?_setIfInBounds_ne (Ne.symm h)]
theorem put_size (a:Act) (d:Option Nat) (v:Value):(a.put d v).tmps.size=a.tmps.size:=by
 cases d<;>simp [Act.put]
theorem put_defers (a:Act) (d:Option Nat) (v:Value):(a.put d v).defers=a.defers:=by
 cases d<;>rfl
theorem evalC (a:Act) (v:Value):a.eval (.const v)=v:=rfl
theorem getD_flip {listed:Array Bool} {i:Nat} (h:listed.getD i true=false):listed.getD i false=false:=by
 have:=lt_of_unlisted h;simp only [Array.getD_eq_getD_getElem?] at h ⊢;rw [Array.getElem?_eq_getElem this] at h ⊢;exact h
end Go.Proofs.YtnpkcneojilmkaaDoor.Mp
end
section
namespace Go.Proofs.YtnpkcneojilmkaaDoor.Mp
open Go.ChangeShapes Go.WideShapes Go.ChangeAt Go.RowKit Base Byt
set_option linter.unusedVariables false
structure RI (ops:Array Oper) (V:Nat → Value) (a0:Act) (W:Array Bool → World → Prop) (listed:Array Bool) (a:Act) (w:World):Prop where
 ls:listed.size=ops.size
 ts:a.tmps.size=a0.tmps.size
 df:a.defers=a0.defers
 done:∀ j o d,ops[j]? = some o → o.dst=some d → listed.getD j false=true → a.eval (.tmp d)=V j
 same:∀ t,(∀ j o,ops[j]? = some o → o.dst=some t → listed.getD j false=false) → a.eval (.tmp t)=a0.eval (.tmp t)
 wd:W listed w
def freeB (ops:Array Oper) (t:Nat):Bool:=ops.toList.all fun o => o.dst != some t
section
variable {ops:Array Oper} {V:Nat → Value} {a0 a:Act} {W:Array Bool → World → Prop} {listed:Array Bool} {w:World}
theorem RI.old (h:RI ops V a0 W listed a w) {t:Nat} (hf:freeB ops t=true):a.eval (.tmp t)=a0.eval (.tmp t):=
 h.same t fun j o ho hd => by
  unfold freeB at hf;rw [List.all_eq_true] at hf;have:=hf o (by rw [Array.mem_toList_iff];exact Array.mem_of_getElem? ho)
  rw [hd] at this;simp at this
end
section
variable {P:Program} {o:Oper} {a:Act} {w:World} {K:Act → World → Prop} {Q:Exit → Act → World → Prop}
end
end Go.Proofs.YtnpkcneojilmkaaDoor.Mp
end
section
namespace Go.Proofs.YtnpkcneojilmkaaDoor.Mp
open Go.ChangeShapes Go.WideShapes Go.ChangeAt Go.RowKit Base Byt
set_option linter.unusedVariables false
def apartG (ops:Array Oper) (n:Nat):Bool:=
 (ops.toList.zipIdx.all fun x => x.1.guard.isNone && (x.1.after.all fun e => decide (e.on < x.2) || !Region.binds .any e) && (match x.1.dst with
  | none => true
  | some d => decide (d < n) && ops.toList.zipIdx.all fun y => y.2 == x.2 || y.1.dst != some d))
theorem apartG_spec {ops:Array Oper} {n:Nat} (h:apartG ops n=true):∀ i o,ops[i]? = some o →
 o.guard=none∧(∀ e ∈ o.after,Region.binds .any e=true → e.on < i)∧(∀ d,o.dst=some d → d < n ∧ ∀ j oj,ops[j]? = some oj → oj.dst=some d → j=i):=by
 intro i o ho;unfold apartG at h;rw [List.all_eq_true] at h
 have hm:∀ (j:Nat) (oj:Oper),ops[j]? = some oj → (oj,j) ∈ ops.toList.zipIdx:=fun j oj hj => by
  rw [List.mem_iff_getElem?];exact ⟨j,by simp [hj]⟩
 have h1:=h (o,i) (hm i o ho);simp only [Bool.and_eq_true] at h1;obtain ⟨⟨h2,h3⟩,h4⟩:=h1;refine ⟨by simpa using h2,fun e he hb => ?_,fun d hd => ?_⟩
 ·have h5:=Array.all_eq_true_iff_forall_mem.1 h3 e he
  rw [hb] at h5
  simpa using h5
 rw [hd] at h4;simp only [Bool.and_eq_true,decide_eq_true_eq] at h4;refine ⟨h4.1,fun j oj hj hdj => ?_⟩
 have h5:=List.all_eq_true.1 h4.2 (oj,j) (hm j oj hj);simp only [Bool.or_eq_true,beq_iff_eq,bne_iff_ne] at h5;rcases h5 with h5 | h5
 ·exact h5
 ·exact absurd hdj h5
theorem RI.next {ops:Array Oper} {V:Nat → Value} {a0 a:Act} {W W':Array Bool → World → Prop} {listed:Array Bool} {w w':World} (n:Nat) (hap:apartG ops n=true) (hn:n≤a0.tmps.size) (h:RI ops V a0 W listed a w)
 {i:Nat} {o:Oper} (ho:ops[i]? = some o) (hun:listed.getD i true=false) (hw:W' (listed.setIfInBounds i true) w'):RI ops V a0 W' (listed.setIfInBounds i true) (a.put o.dst (V i)) w':=by
 have hlt:=lt_of_unlisted hun;obtain ⟨hg,_,hd⟩:=apartG_spec hap i o ho;refine ⟨by simpa using h.ls,by rw [put_size];exact h.ts,by rw [put_defers];exact h.df,fun j oj d hj hdj hl => ?_,fun t ht => ?_,hw⟩
 ·cases hod:o.dst with
  | none =>
    have hji:j≠i:=fun e => by
     subst e;rw [ho] at hj
     cases hj
     rw [hod] at hdj
     cases hdj
    rw [listed_get hlt,if_neg hji] at hl;exact h.done j oj d hj hdj hl
  | some d' =>
    obtain ⟨hdn,huni⟩:=hd d' hod;have hsz:d' < a.tmps.size:=by rw [h.ts];exact Nat.lt_of_lt_of_le hdn hn
    rw [put_eval _ hsz]
    by_cases hdd:d=d'
    ·have:=huni j oj hj (by rw [← hdd];exact hdj)
     rw [if_pos hdd,this]
    ·rw [if_neg hdd]
     have hji:j≠i:=fun e => by
      subst e;rw [ho] at hj
      cases hj
      rw [hod] at hdj;exact hdd (Option.some.inj hdj).symm
     rw [listed_get hlt,if_neg hji] at hl;exact h.done j oj d hj hdj hl
 ·have hti:o.dst≠some t:=fun e => by
   have:=ht i o ho e;rw [listed_get hlt,if_pos rfl] at this
   cases this
  have hold:a.eval (.tmp t)=a0.eval (.tmp t):=h.same t fun j oj hj hdj => by
   have h1:=ht j oj hj hdj;rw [listed_get hlt] at h1
   split at h1
   ·cases h1
   ·exact h1
  cases hod:o.dst with
  | none => exact hold
  | some d' =>
    obtain ⟨hdn,_⟩:=hd d' hod;rw [put_eval _ (by rw [h.ts];exact Nat.lt_of_lt_of_le hdn hn),if_neg (fun e => hti (by rw [hod,e]))]
    exact hold
end Go.Proofs.YtnpkcneojilmkaaDoor.Mp
end
