/- Texts of this seat, merged: what the proof reaches. -/
import Derived.Test.YtfpoipamioaklaaStorePlaysX13
import Derived.Test.YtfpoipamioaklaaStorePlaysX4
import Derived.Shelf.Abstract
import Derived.Test.YtfpoipamioaklaaStorePlaysX12
import Derived.BigQuiet
namespace Go.Proofs.Ytfpoipamioaklaa
namespace Base
end Base
namespace Bk
end Bk
namespace Block
end Block
namespace Byt
end Byt
namespace Mp
end Mp
namespace Sto
end Sto
namespace Txt
end Txt
end Go.Proofs.Ytfpoipamioaklaa
section
namespace Go.Proofs.Ytfpoipamioaklaa.Sto
open Go.ChangeShapes Go.WideShapes Go.ChangeAt Go.RowKit Base Byt Txt Bk Block Go.Proofs.Ytfpoipamioaklaa.Mp Go.Lib
set_option linter.unusedVariables false
set_option maxRecDepth 100000
theorem wpAny_opsS {P:Program} {ops ops':Array Oper} {Q:Exit → Act → World → Prop} {a:Act} {w:World} (h:ops=ops') (hw:wpAny P .any ops' Q ops'.size (Array.replicate ops'.size false) a w):wpAny P .any ops Q ops.size (Array.replicate ops.size false) a w:=h ▸ hw
section
variable {w:World} {o:Oper} {a:Act} {K:Act → World → Prop} {Q:Exit → Act → World → Prop}
theorem wp_appB (x y:Operand) (ho:o.op=.call { callee:=.builtin .append,args:=#[x,y],argTypes:=#[32,32] })
 (base:Nat) (v:Value) (n:Nat) (xs:List UInt8) (hs:a.eval x=v) (hown:OwnB w base v n xs)
 (p:Option Addr) (m c:Nat) (bs:List UInt8) (hx:a.eval y=.slice p m c) (hb:BAt w p m bs) (hl:bs.length=m) (hsum:n+m≤140737488351232) (hbase:base≤w.heap.size)
 (h:∀ v' w',OwnB w' base v' (n+m) (xs++bs) → w.grownBy w' v.ownBlock → NewOr w v v' → K (a.put o.dst v') w'):Oper.wp Try.prog o a w K Q:=by
 obtain ⟨i0,hi,hz0,hz1,hz2⟩:=info_parts infoU8;obtain ⟨v',w',hr,h2,h3,h4⟩:=run_bytes_any (P:=Try.prog) 32 o.type base 5 i0 Try.underlying32 hi hz0 hz1 hz2 v n (nums xs) hown p m c bs hb hl hsum hbase;have hr2:(execOp a.eval o).run Try.prog w=.ok (.value v') w':=by simp [execOp,ho,resolve,invoke,builtin,hs,hx,hr,Result.andThen]
 unfold Oper.wp;rw [hr2,Oper.upon_value];refine h v' w' ?_ h3 h4;unfold OwnB;rw [nums_append];exact h2
theorem wp_loadS (T:TypeId) (p:Operand) (ho:o.op=.load T p) (b i:Nat) (hp:a.eval p=.pointer (some ⟨b,i,none⟩)) (v:Value) (hr:(Instr.loadAt T (.pointer (some ⟨b,i,none⟩))).run Try.prog w=.ok v w) (h:K (a.put o.dst v) w):Oper.wp Try.prog o a w K Q:=by
 have hr2:(execOp a.eval o).run Try.prog w=.ok (.value v) w:=by simp [execOp,ho,hp,hr,Result.andThen]
 unfold Oper.wp;rw [hr2,Oper.upon_value];exact h
end
theorem ld_intS (w:World) (b i:Nat) (x:Int) (hc:w.cell? ⟨b,i,none⟩=some (.int .i64 x)):(Instr.loadAt 3 (.pointer (some ⟨b,i,none⟩))).run Try.prog w=.ok (.int .i64 x) w:=by go_simp
theorem ld_bytS (w:World) (b i:Nat) (p:Option Addr) (n c:Nat) (hc:w.cell? ⟨b,i,none⟩=some (.slice p n c)):(Instr.loadAt 32 (.pointer (some ⟨b,i,none⟩))).run Try.prog w=.ok (.slice p n c) w:=by go_simp
theorem bs_bytS (w:World):(Instr.buildSlice 32 0 #[]).run Try.prog w=.ok (.slice (some ⟨w.heap.size,0,none⟩) 0 0) (w.alloc (.cells #[] 5)):=by kernel_rfl
def offP (own:Nat → Prop) (r:Nat) (vr vt:Value) (rs:List RR) (yb b:Nat):Prop:=¬ own b∧¬ refS r vr vt b∧b≠yb ∧ ∀ x ∈ rs,0 < x.b.length → ∀ a,x.p=some a → a.block≠b
section
variable {At:World → Nat → SM → (Nat → Prop) → Prop} {w0 wr w':World} {g r yb:Nat} {own own':Nat → Prop} {Ma Mr M':SM} {q:Option Addr} {m d:Nat} {vr vt vr' vt':Value} {rs rs':List RR} {cs:Array Value}
theorem PlayY.row (H:StoC At) (h:PlayY At w0 wr g own r Ma Mr q m d vr vt rs yb cs) {v:Value} (hk:Kept (fun b => v.ownBlock=some b) wr w') (ho:∀ b,v.ownBlock=some b → w0.heap.size≤b∧offP own r vr vt rs yb b):PlayY At w0 w' g own r Ma Mr q m d vr vt rs yb cs where
 q:=
 { at_:=H.frame h.q.at_ hk (fun b hb e => (ho b e).2.1 hb)
   ref:=h.q.ref.kept hk (fun e => (ho _ e).2.2.1 (.inl rfl)) (fun b hb e => (ho b e).2.2.1 (.inr (.inl hb))) (fun b hb e => (ho b e).2.2.1 (.inr (.inr hb))) (fun x hx h0 a ha e => (ho _ e).2.2.2.2 x hx h0 a ha rfl) (fun h0 a ha e => by
    have:=h.q.ref.flt h0 a ha;have:=(ho _ e).1
    omega)
   bel:=h.q.bel.trans (hk.below h.q.bel.size (fun b hb => (ho b hb).1))
   base:=h.q.base
   sep:=h.q.sep
   sepd:=h.q.sepd }
 blk:=h.blk.keptS hk (fun e => (ho _ e).2.2.2.1 rfl)
 no:=h.no
 nr:=h.nr
theorem PlayY.off_new (H:StoC At) (h:PlayY At w0 wr g own r Ma Mr q m d vr vt rs yb cs):w0.heap.size≤wr.heap.size∧offP own r vr vt rs yb wr.heap.size:=
 ⟨h.q.bel.size,fun ho => Nat.lt_irrefl _ ((H.lt h.q.at_).2 _ ho),fun hr => Nat.lt_irrefl _ (h.q.ref.lt _ hr).2,fun e => by have:=h.blk.lt;omega,fun x hx h0 a ha e => by have:=h.q.ref.dlt hx h0 ha;omega⟩
end
noncomputable def pl17Ops:Array Oper:=regionAt Try.f3 17
structure G17 where
 va:Value
 vb:Value
 own:Nat → Prop
 rs:List RR
def pl17V (g r yb:Nat) (rn:Int) (py:Option Addr) (L cy:Nat) (cd:Int) (γ:G17):Nat → Value
 | 0 => ptrS g | 1 => .pointer (some ⟨yb,1,none⟩) | 2 => .int .i64 rn | 3 => γ.va | 4 => .pointer (some ⟨yb,4,none⟩) | 5 => .slice py L cy | 6 => γ.vb | 7 => .int .i64 cd | 8 => ptrS r | 9 => .pointer (some ⟨yb,1,none⟩) | 10 => .int .i64 rn | 11 => .pointer (some ⟨yb,4,none⟩) | 12 => .slice py L cy | 13 => .int .i64 cd | 14 => .bool false | _ => undef
theorem pl17_size:pl17Ops.size=15:=rfl
theorem pl17_apart:apartG pl17Ops 240=true:=by kernel_rfl
theorem pl17_dst0:dstAt pl17Ops 0=some 93:=rfl
theorem pl17_op0:∃ o,pl17Ops[0]? = some o∧o.op=.move (.tmp 7)∧o.dst=some 93:=⟨_,rfl,rfl,rfl⟩
theorem pl17_dst1:dstAt pl17Ops 1=some 94:=rfl
theorem pl17_op1:∃ o,pl17Ops[1]? = some o∧o.op=.fieldAddr 34 (.tmp 10) 1∧o.dst=some 94:=⟨_,rfl,rfl,rfl⟩
theorem pl17_dst2:dstAt pl17Ops 2=some 95:=rfl
theorem pl17_op2:∃ o,pl17Ops[2]? = some o∧o.op=.load 3 (.tmp 94)∧o.dst=some 95:=⟨_,rfl,rfl,rfl⟩
theorem pl17_dst3:dstAt pl17Ops 3=some 96:=rfl
theorem pl17_op3:∃ o,pl17Ops[3]? = some o∧o.op=.buildSlice 32 0 #[]∧o.dst=some 96:=⟨_,rfl,rfl,rfl⟩
theorem pl17_dst4:dstAt pl17Ops 4=some 97:=rfl
theorem pl17_op4:∃ o,pl17Ops[4]? = some o∧o.op=.fieldAddr 34 (.tmp 10) 4∧o.dst=some 97:=⟨_,rfl,rfl,rfl⟩
theorem pl17_dst5:dstAt pl17Ops 5=some 98:=rfl
theorem pl17_op5:∃ o,pl17Ops[5]? = some o∧o.op=.load 32 (.tmp 97)∧o.dst=some 98:=⟨_,rfl,rfl,rfl⟩
theorem pl17_dst6:dstAt pl17Ops 6=some 99:=rfl
theorem pl17_op6:∃ o,pl17Ops[6]? = some o∧o.op=.call { callee:=.builtin .append,args:=#[.tmp 96,.tmp 98],argTypes:=#[32,32] }∧o.dst=some 99:=⟨_,rfl,rfl,rfl⟩
theorem pl17_dst7:dstAt pl17Ops 7=some 100:=rfl
theorem pl17_op7:∃ o,pl17Ops[7]? = some o∧o.op=.call { callee:=.value (.func 10),args:=#[.tmp 93,.tmp 95,.tmp 99],argTypes:=#[25,3,32] }∧o.dst=some 100:=⟨_,rfl,rfl,rfl⟩
theorem pl17_dst8:dstAt pl17Ops 8=some 101:=rfl
theorem pl17_op8:∃ o,pl17Ops[8]? = some o∧o.op=.move (.tmp 8)∧o.dst=some 101:=⟨_,rfl,rfl,rfl⟩
theorem pl17_dst9:dstAt pl17Ops 9=some 102:=rfl
theorem pl17_op9:∃ o,pl17Ops[9]? = some o∧o.op=.fieldAddr 34 (.tmp 10) 1∧o.dst=some 102:=⟨_,rfl,rfl,rfl⟩
theorem pl17_dst10:dstAt pl17Ops 10=some 103:=rfl
theorem pl17_op10:∃ o,pl17Ops[10]? = some o∧o.op=.load 3 (.tmp 102)∧o.dst=some 103:=⟨_,rfl,rfl,rfl⟩
theorem pl17_dst11:dstAt pl17Ops 11=some 104:=rfl
theorem pl17_op11:∃ o,pl17Ops[11]? = some o∧o.op=.fieldAddr 34 (.tmp 10) 4∧o.dst=some 104:=⟨_,rfl,rfl,rfl⟩
theorem pl17_dst12:dstAt pl17Ops 12=some 105:=rfl
theorem pl17_op12:∃ o,pl17Ops[12]? = some o∧o.op=.load 32 (.tmp 104)∧o.dst=some 105:=⟨_,rfl,rfl,rfl⟩
theorem pl17_dst13:dstAt pl17Ops 13=some 106:=rfl
theorem pl17_op13:∃ o,pl17Ops[13]? = some o∧o.op=.call { callee:=.value (.func 11),args:=#[.tmp 101,.tmp 103,.tmp 105],argTypes:=#[27,3,32] }∧o.dst=some 106:=⟨_,rfl,rfl,rfl⟩
theorem pl17_dst14:dstAt pl17Ops 14=some 107:=rfl
theorem pl17_op14:∃ o,pl17Ops[14]? = some o∧o.op=.binOp .neq 35 (.tmp 100) (.tmp 106) 35∧o.dst=some 107:=⟨_,rfl,rfl,rfl⟩
theorem pl17V_va (g r yb:Nat) (rn:Int) (py:Option Addr) (L cy:Nat) (cd:Int) (γ:G17) (z:Value) {i:Nat} (h:i≠3):pl17V g r yb rn py L cy cd { γ with va:=z } i=pl17V g r yb rn py L cy cd γ i:=by
 unfold pl17V
 split<;>first | rfl | exact absurd rfl h
theorem pl17V_vb (g r yb:Nat) (rn:Int) (py:Option Addr) (L cy:Nat) (cd:Int) (γ:G17) (z:Value) {i:Nat} (h:i≠6):pl17V g r yb rn py L cy cd { γ with vb:=z } i=pl17V g r yb rn py L cy cd γ i:=by
 unfold pl17V
 split<;>first | rfl | exact absurd rfl h
structure W17 (At:World → Nat → SM → (Nat → Prop) → Prop) (w0 w1:World) (g r:Nat) (M M':SM) (q:Option Addr) (m d:Nat) (vr vt:Value) (yb:Nat) (cs:Array Value) (L:Nat) (bs:List UInt8) (γ:G17) (La Lb Lp Lr:Bool) (w:World):Prop where
 bel:Below w0.heap.size w1 w
 pl:PlayY At w0 w g γ.own r (if Lp=true then M' else M) (if Lr=true then M' else M) q m d vr vt γ.rs yb cs
 ra:La=true → Lb=false → OwnB w w0.heap.size γ.va 0 [] ∧ ∀ b,γ.va.ownBlock=some b → w0.heap.size≤b∧offP γ.own r vr vt γ.rs yb b
 rb:Lb=true → Lp=false → OwnB w w0.heap.size γ.vb L bs ∧ ∀ b,γ.vb.ownBlock=some b → w0.heap.size≤b∧offP γ.own r vr vt γ.rs yb b
 cp:Lp=true → Lb=true
set_option maxHeartbeats 4000000 in
theorem pl17_region {Q':Exit → Act → World → Prop} {a0:Act} {At:World → Nat → SM → (Nat → Prop) → Prop} {w0 w1:World} {g r:Nat} {M M':SM} {q:Option Addr} {m d:Nat} {vr vt:Value} {yb:Nat} {cs:Array Value} {L:Nat} {bs:List UInt8} {own:Nat → Prop} {rs:List RR} {av nv kv:Value} (H:StoC At) (rn:Int) (py:Option Addr) (cy:Nat) (cd:Int) (hcs:cs=#[kv,.int .i64 rn,av,nv,.slice py L cy])
 (hsz:240≤a0.tmps.size) (h7:a0.eval (.tmp 7)=ptrS g) (h8:a0.eval (.tmp 8)=ptrS r) (h10:a0.eval (.tmp 10)=.pointer (some ⟨yb,0,none⟩)) (hap:appendS M rn bs=(cd,M')) (hS:SmallS M) (hr1:-9223372036854775808≤rn) (hr2:rn≤9223372036854775807) (hRm:M.room≤9223372036854775807)
 (hL:bs.length=L) (hL5:L≤500) (hBA:BAt w1 py L bs) (hPB:0 < L → ∀ a,py=some a → a.block < w0.heap.size)
 (hst:PlayY At w0 w1 g own r M M q m d vr vt rs yb cs)
 (hQ:∀ (γ:G17) w',PlayY At w0 w' g γ.own r M' M' q m d vr vt γ.rs yb cs → Q' .normal ((((((((((((((((a0).put (some 93) (ptrS g)).put (some 94) (.pointer (some ⟨yb,1,none⟩))).put (some 95) (.int .i64 rn)).put (some 96) (γ.va)).put (some 97) (.pointer (some ⟨yb,4,none⟩))).put (some 98) (.slice py L cy)).put (some 99) (γ.vb)).put (some 100) (.int .i64 cd)).put (some 101) (ptrS r)).put (some 102) (.pointer (some ⟨yb,1,none⟩))).put (some 103) (.int .i64 rn)).put (some 104) (.pointer (some ⟨yb,4,none⟩))).put (some 105) (.slice py L cy)).put (some 106) (.int .i64 cd)).put (some 107) (.bool false)) w') :
 wpAny Try.prog .any pl17Ops Q' pl17Ops.size (Array.replicate pl17Ops.size false) a0 w1.drew:=by
 have no:∀ j,(Array.replicate pl17Ops.size false).getD j false=false:=fun j => by
  rw [Array.getD_eq_getD_getElem?,Array.getElem?_replicate]
  split<;>rfl
 have hbat:∀ w,Below w0.heap.size w1 w → BAt w py L bs:=fun w hb h0 => by
  obtain ⟨b,o,e1,e2,e3⟩:=hBA.cell h0;have:=hPB h0 _ e1;exact ⟨b,o,e1,fun i hi => by rw [hb.cell (p:=⟨b,o+i,none⟩) this];exact e3 i hi⟩
 refine wpAny_ghost (Γ:=G17) (pl17V g r yb rn py L cy cd) { va:=undef,vb:=undef,own:=own,rs:=rs } a0 (fun γ listed w => W17 At w0 w1 g r M M' q m d vr vt yb cs L bs γ (listed.getD 3 false) (listed.getD 6 false) (listed.getD 7 false) (listed.getD 13 false) w) 240 pl17_apart hsz ?_ ?_ ?_
 ·intro γ listed a w j o h ho hun hdep
  have hlt:=lt_of_unlisted hun;have hW:=h.wd
  have hj:j < 15:=by
   have:=(Array.getElem?_eq_some_iff.1 ho).1
   rwa [pl17_size] at this
  have same:∀ {j':Nat} {o':Oper},pl17Ops[j']? = some o' → j=j' → o'=o:=fun {j' o'} h' e => by subst e;exact Option.some.inj (h'.symm.trans ho)
  have hlf:=getD_flip hun;have hne:∀ i,listed.getD i false=true → i≠j:=fun i hi e => by rw [e,hlf] at hi;cases hi
  rcases (show j=0 ∨ j=1 ∨ j=2 ∨ j=3 ∨ j=4 ∨ j=5 ∨ j=6 ∨ j=7 ∨ j=8 ∨ j=9 ∨ j=10 ∨ j=11 ∨ j=12 ∨ j=13 ∨ j=14 by omega) with rfl | rfl | rfl | rfl | rfl | rfl | rfl | rfl | rfl | rfl | rfl | rfl | rfl | rfl | rfl
  ·obtain ⟨o',ho',hop,hdst⟩:=pl17_op0
   obtain rfl:=same ho' rfl;have eLa:(listed.setIfInBounds 0 true).getD 3 false=listed.getD 3 false:=by rw [listed_get hlt,if_neg (by decide)]
   have eLb:(listed.setIfInBounds 0 true).getD 6 false=listed.getD 6 false:=by rw [listed_get hlt,if_neg (by decide)]
   have eLp:(listed.setIfInBounds 0 true).getD 7 false=listed.getD 7 false:=by rw [listed_get hlt,if_neg (by decide)]
   have eLr:(listed.setIfInBounds 0 true).getD 13 false=listed.getD 13 false:=by rw [listed_get hlt,if_neg (by decide)]
   have keep:W17 At w0 w1 g r M M' q m d vr vt yb cs L bs γ ((listed.setIfInBounds 0 true).getD 3 false) ((listed.setIfInBounds 0 true).getD 6 false) ((listed.setIfInBounds 0 true).getD 7 false) ((listed.setIfInBounds 0 true).getD 13 false) w:=by rw [eLa,eLb,eLp,eLr];exact hW
   exact wp_move _ _ (Or.inl hop) ((h.old (t:=7) (by kernel_rfl)).trans h7) ⟨γ,fun _ _ => rfl,rfl,keep⟩
  ·obtain ⟨o',ho',hop,hdst⟩:=pl17_op1
   obtain rfl:=same ho' rfl;have eLa:(listed.setIfInBounds 1 true).getD 3 false=listed.getD 3 false:=by rw [listed_get hlt,if_neg (by decide)]
   have eLb:(listed.setIfInBounds 1 true).getD 6 false=listed.getD 6 false:=by rw [listed_get hlt,if_neg (by decide)]
   have eLp:(listed.setIfInBounds 1 true).getD 7 false=listed.getD 7 false:=by rw [listed_get hlt,if_neg (by decide)]
   have eLr:(listed.setIfInBounds 1 true).getD 13 false=listed.getD 13 false:=by rw [listed_get hlt,if_neg (by decide)]
   have keep:W17 At w0 w1 g r M M' q m d vr vt yb cs L bs γ ((listed.setIfInBounds 1 true).getD 3 false) ((listed.setIfInBounds 1 true).getD 6 false) ((listed.setIfInBounds 1 true).getD 7 false) ((listed.setIfInBounds 1 true).getD 13 false) w:=by rw [eLa,eLb,eLp,eLr];exact hW
   have e:a.eval (.tmp 10)=.pointer (some ⟨yb,0,none⟩):=(h.old (t:=10) (by kernel_rfl)).trans h10
   refine wp_run _ ?_ ⟨γ,fun _ _ => rfl,rfl,keep⟩
   generalize a.eval=ev at e ⊢;simp [go_sem,execOp,hop,e,pl17V]
  ·obtain ⟨o',ho',hop,hdst⟩:=pl17_op2
   obtain rfl:=same ho' rfl;have eLa:(listed.setIfInBounds 2 true).getD 3 false=listed.getD 3 false:=by rw [listed_get hlt,if_neg (by decide)]
   have eLb:(listed.setIfInBounds 2 true).getD 6 false=listed.getD 6 false:=by rw [listed_get hlt,if_neg (by decide)]
   have eLp:(listed.setIfInBounds 2 true).getD 7 false=listed.getD 7 false:=by rw [listed_get hlt,if_neg (by decide)]
   have eLr:(listed.setIfInBounds 2 true).getD 13 false=listed.getD 13 false:=by rw [listed_get hlt,if_neg (by decide)]
   have keep:W17 At w0 w1 g r M M' q m d vr vt yb cs L bs γ ((listed.setIfInBounds 2 true).getD 3 false) ((listed.setIfInBounds 2 true).getD 6 false) ((listed.setIfInBounds 2 true).getD 7 false) ((listed.setIfInBounds 2 true).getD 13 false) w:=by rw [eLa,eLb,eLp,eLr];exact hW
   have e:a.eval (.tmp 94)=.pointer (some ⟨yb,1,none⟩):=h.get ho hdep (i:=1) (d:=94) (by kernel_rfl) rfl
   have c0:=hW.pl.blk.cell 1;rw [hcs] at c0;simp only [List.getElem?_toArray,List.getElem?_cons_zero,List.getElem?_cons_succ] at c0;exact wp_loadS _ _ hop yb 1 e _ (ld_intS w yb 1 rn c0) ⟨γ,fun _ _ => rfl,rfl,keep⟩
  ·obtain ⟨o',ho',hop,hdst⟩:=pl17_op3
   obtain rfl:=same ho' rfl;have eLa:(listed.setIfInBounds 3 true).getD 3 false=true:=by rw [listed_get hlt,if_pos rfl]
   have eLb:(listed.setIfInBounds 3 true).getD 6 false=listed.getD 6 false:=by rw [listed_get hlt,if_neg (by decide)]
   have eLp:(listed.setIfInBounds 3 true).getD 7 false=listed.getD 7 false:=by rw [listed_get hlt,if_neg (by decide)]
   have eLr:(listed.setIfInBounds 3 true).getD 13 false=listed.getD 13 false:=by rw [listed_get hlt,if_neg (by decide)]
   have hq:=bs_bytS w;have hr:(execOp a.eval o').run Try.prog w=.ok (.value (.slice (some ⟨w.heap.size,0,none⟩) 0 0)) (w.alloc (.cells #[] 5)):=by simp [execOp,hop,hq,Result.andThen]
   have hk:Kept noneB w (w.alloc (.cells #[] 5)):=(Kept.refl noneB w).alloc _;have hoff:=hW.pl.off_new H;unfold Oper.wp;rw [hr,Oper.upon_value];refine ⟨{ γ with va:=.slice (some ⟨w.heap.size,0,none⟩) 0 0 },fun i hi => pl17V_va _ _ _ _ _ _ _ _ _ _ (hne i hi),rfl,?_⟩
   rw [eLa,eLb,eLp,eLr]
   exact { bel:=hW.bel.trans (hk.below hW.pl.q.bel.size (fun _ h => h.elim)),pl:=hW.pl.none_ H hk,ra:=fun _ _ => ⟨World.ownsRow_made w #[] 0 hW.pl.q.bel.size (by decide) rfl,fun b hb => by
            have e:b=w.heap.size:=by simpa [Value.ownBlock] using hb.symm
            rw [e];exact hoff⟩
           rb:=fun h1 h2 => ⟨(hW.rb h1 h2).1.kept hk (fun _ _ h => h),(hW.rb h1 h2).2⟩,cp:=hW.cp }
  ·obtain ⟨o',ho',hop,hdst⟩:=pl17_op4
   obtain rfl:=same ho' rfl;have eLa:(listed.setIfInBounds 4 true).getD 3 false=listed.getD 3 false:=by rw [listed_get hlt,if_neg (by decide)]
   have eLb:(listed.setIfInBounds 4 true).getD 6 false=listed.getD 6 false:=by rw [listed_get hlt,if_neg (by decide)]
   have eLp:(listed.setIfInBounds 4 true).getD 7 false=listed.getD 7 false:=by rw [listed_get hlt,if_neg (by decide)]
   have eLr:(listed.setIfInBounds 4 true).getD 13 false=listed.getD 13 false:=by rw [listed_get hlt,if_neg (by decide)]
   have keep:W17 At w0 w1 g r M M' q m d vr vt yb cs L bs γ ((listed.setIfInBounds 4 true).getD 3 false) ((listed.setIfInBounds 4 true).getD 6 false) ((listed.setIfInBounds 4 true).getD 7 false) ((listed.setIfInBounds 4 true).getD 13 false) w:=by rw [eLa,eLb,eLp,eLr];exact hW
   have e:a.eval (.tmp 10)=.pointer (some ⟨yb,0,none⟩):=(h.old (t:=10) (by kernel_rfl)).trans h10
   refine wp_run _ ?_ ⟨γ,fun _ _ => rfl,rfl,keep⟩
   generalize a.eval=ev at e ⊢;simp [go_sem,execOp,hop,e,pl17V]
  ·obtain ⟨o',ho',hop,hdst⟩:=pl17_op5
   obtain rfl:=same ho' rfl;have eLa:(listed.setIfInBounds 5 true).getD 3 false=listed.getD 3 false:=by rw [listed_get hlt,if_neg (by decide)]
   have eLb:(listed.setIfInBounds 5 true).getD 6 false=listed.getD 6 false:=by rw [listed_get hlt,if_neg (by decide)]
   have eLp:(listed.setIfInBounds 5 true).getD 7 false=listed.getD 7 false:=by rw [listed_get hlt,if_neg (by decide)]
   have eLr:(listed.setIfInBounds 5 true).getD 13 false=listed.getD 13 false:=by rw [listed_get hlt,if_neg (by decide)]
   have keep:W17 At w0 w1 g r M M' q m d vr vt yb cs L bs γ ((listed.setIfInBounds 5 true).getD 3 false) ((listed.setIfInBounds 5 true).getD 6 false) ((listed.setIfInBounds 5 true).getD 7 false) ((listed.setIfInBounds 5 true).getD 13 false) w:=by rw [eLa,eLb,eLp,eLr];exact hW
   have e:a.eval (.tmp 97)=.pointer (some ⟨yb,4,none⟩):=h.get ho hdep (i:=4) (d:=97) (by kernel_rfl) rfl
   have c0:=hW.pl.blk.cell 4;rw [hcs] at c0;simp only [List.getElem?_toArray,List.getElem?_cons_zero,List.getElem?_cons_succ] at c0;exact wp_loadS _ _ hop yb 4 e _ (ld_bytS w yb 4 py L cy c0) ⟨γ,fun _ _ => rfl,rfl,keep⟩
  ·obtain ⟨o',ho',hop,hdst⟩:=pl17_op6
   obtain rfl:=same ho' rfl;have eLa:(listed.setIfInBounds 6 true).getD 3 false=listed.getD 3 false:=by rw [listed_get hlt,if_neg (by decide)]
   have eLb:(listed.setIfInBounds 6 true).getD 6 false=true:=by rw [listed_get hlt,if_pos rfl]
   have eLp:(listed.setIfInBounds 6 true).getD 7 false=listed.getD 7 false:=by rw [listed_get hlt,if_neg (by decide)]
   have eLr:(listed.setIfInBounds 6 true).getD 13 false=listed.getD 13 false:=by rw [listed_get hlt,if_neg (by decide)]
   have x0:a.eval (.tmp 96)=γ.va:=h.get ho hdep (i:=3) (d:=96) (by kernel_rfl) rfl
   have x1:a.eval (.tmp 98)=.slice py L cy:=h.get ho hdep (i:=5) (d:=98) (by kernel_rfl) rfl
   have la:listed.getD 3 false=true:=dep_listed ho hdep (by kernel_rfl)
   have hra:=hW.ra la hlf
   have np:listed.getD 7 false=false:=by
    cases hx:listed.getD 7 false with
    | false => rfl
    | true => have:=hW.cp hx;rw [hlf] at this;cases this
   have hoff:=hW.pl.off_new H;refine wp_appB _ _ hop w0.heap.size γ.va 0 [] x0 hra.1 py L cy bs x1 (hbat w hW.bel) hL (by omega) hW.pl.q.bel.size (fun v' w' g1 g2 g3 => ⟨{ γ with vb:=v' },fun i hi => pl17V_vb _ _ _ _ _ _ _ _ _ _ (hne i hi),rfl,?_⟩)
   rw [eLa,eLb,eLp,eLr];have hK:Kept (fun b => γ.va.ownBlock=some b) w w':=(Kept.refl _ w).grown g2 (fun k hk => .inr hk)
   rw [Nat.zero_add,List.nil_append] at g1
   exact { bel:=hW.bel.trans (hK.below hW.pl.q.bel.size (fun k hk => (hra.2 k hk).1)),pl:=hW.pl.row H hK hra.2,ra:=fun _ hx => (by cases hx),rb:=fun _ _ => ⟨g1,fun b hb => by
            rcases g3 b hb with e | e
            ·exact hra.2 b e
            ·exact ⟨Nat.le_trans hoff.1 e,fun ho => by have:=(H.lt hW.pl.q.at_).2 _ ho;omega,fun hr => by have:=(hW.pl.q.ref.lt _ hr).2;omega,fun e2 => by have:=hW.pl.blk.lt;omega,fun x hx h0 a ha e2 => by have:=hW.pl.q.ref.dlt hx h0 ha;omega⟩⟩
           cp:=fun _ => rfl }
  ·obtain ⟨o',ho',hop,hdst⟩:=pl17_op7
   obtain rfl:=same ho' rfl;have eLa:(listed.setIfInBounds 7 true).getD 3 false=listed.getD 3 false:=by rw [listed_get hlt,if_neg (by decide)]
   have eLb:(listed.setIfInBounds 7 true).getD 6 false=listed.getD 6 false:=by rw [listed_get hlt,if_neg (by decide)]
   have eLp:(listed.setIfInBounds 7 true).getD 7 false=true:=by rw [listed_get hlt,if_pos rfl]
   have eLr:(listed.setIfInBounds 7 true).getD 13 false=listed.getD 13 false:=by rw [listed_get hlt,if_neg (by decide)]
   have x0:a.eval (.tmp 93)=ptrS g:=h.get ho hdep (i:=0) (d:=93) (by kernel_rfl) rfl
   have x1:a.eval (.tmp 95)=.int .i64 rn:=h.get ho hdep (i:=2) (d:=95) (by kernel_rfl) rfl
   have x2:a.eval (.tmp 99)=γ.vb:=h.get ho hdep (i:=6) (d:=99) (by kernel_rfl) rfl
   have lb:listed.getD 6 false=true:=dep_listed ho hdep (by kernel_rfl)
   have hrb:=hW.rb lb hlf;obtain ⟨p6,c6,e6,hle6,hmx6,hbt6,hln6,hat6⟩:=hrb.1.slice;have hpl:=hW.pl;rw [hlf,if_neg (by decide)] at hpl
   have hc:=H.append rn p6 L c6 bs hpl.q.at_ hS hbt6 hln6 hle6 hmx6 (by omega) (fun h0 a ha ho => (hrb.2 a.block (hat6 a ha).2.2).2.1 ho) hr1 hr2
   rw [hap] at hc
   refine wp_callE _ _ _ hop #[ptrS g,.int .i64 rn,.slice p6 L c6] (by rw [← e6];simp [x0,x1,x2]) (enters_of Try.func10 (by kernel_rfl) rfl) (fun v w' => v=.int .i64 cd ∧ ∃ own',At w' g M' own'∧(∀ b,own' b → γ.own b ∨ w.heap.size≤b)∧Kept γ.own w w') (hc.mono fun e w' he => by
    obtain ⟨own',he,h1,h2,h3⟩:=he
    exact ⟨_,he,rfl,own',h1,h2,h3⟩) (fun v w' hR => ?_)
   obtain ⟨rfl,own',h1,h2,h3⟩:=hR;refine ⟨{ γ with own:=own' },fun i hi => rfl,rfl,?_⟩
   rw [eLa,eLb,eLp,eLr];exact { bel:=hW.bel.trans (h3.below hW.pl.q.bel.size hW.pl.q.base),pl:=by rw [if_pos rfl];exact hW.pl.prog h1 h2 h3,ra:=fun _ hx => absurd lb (by rw [hx];decide),rb:=fun _ hx => (by cases hx),cp:=fun _ => lb }
  ·obtain ⟨o',ho',hop,hdst⟩:=pl17_op8
   obtain rfl:=same ho' rfl;have eLa:(listed.setIfInBounds 8 true).getD 3 false=listed.getD 3 false:=by rw [listed_get hlt,if_neg (by decide)]
   have eLb:(listed.setIfInBounds 8 true).getD 6 false=listed.getD 6 false:=by rw [listed_get hlt,if_neg (by decide)]
   have eLp:(listed.setIfInBounds 8 true).getD 7 false=listed.getD 7 false:=by rw [listed_get hlt,if_neg (by decide)]
   have eLr:(listed.setIfInBounds 8 true).getD 13 false=listed.getD 13 false:=by rw [listed_get hlt,if_neg (by decide)]
   have keep:W17 At w0 w1 g r M M' q m d vr vt yb cs L bs γ ((listed.setIfInBounds 8 true).getD 3 false) ((listed.setIfInBounds 8 true).getD 6 false) ((listed.setIfInBounds 8 true).getD 7 false) ((listed.setIfInBounds 8 true).getD 13 false) w:=by rw [eLa,eLb,eLp,eLr];exact hW
   exact wp_move _ _ (Or.inl hop) ((h.old (t:=8) (by kernel_rfl)).trans h8) ⟨γ,fun _ _ => rfl,rfl,keep⟩
  ·obtain ⟨o',ho',hop,hdst⟩:=pl17_op9
   obtain rfl:=same ho' rfl;have eLa:(listed.setIfInBounds 9 true).getD 3 false=listed.getD 3 false:=by rw [listed_get hlt,if_neg (by decide)]
   have eLb:(listed.setIfInBounds 9 true).getD 6 false=listed.getD 6 false:=by rw [listed_get hlt,if_neg (by decide)]
   have eLp:(listed.setIfInBounds 9 true).getD 7 false=listed.getD 7 false:=by rw [listed_get hlt,if_neg (by decide)]
   have eLr:(listed.setIfInBounds 9 true).getD 13 false=listed.getD 13 false:=by rw [listed_get hlt,if_neg (by decide)]
   have keep:W17 At w0 w1 g r M M' q m d vr vt yb cs L bs γ ((listed.setIfInBounds 9 true).getD 3 false) ((listed.setIfInBounds 9 true).getD 6 false) ((listed.setIfInBounds 9 true).getD 7 false) ((listed.setIfInBounds 9 true).getD 13 false) w:=by rw [eLa,eLb,eLp,eLr];exact hW
   have e:a.eval (.tmp 10)=.pointer (some ⟨yb,0,none⟩):=(h.old (t:=10) (by kernel_rfl)).trans h10
   refine wp_run _ ?_ ⟨γ,fun _ _ => rfl,rfl,keep⟩
   generalize a.eval=ev at e ⊢;simp [go_sem,execOp,hop,e,pl17V]
  ·obtain ⟨o',ho',hop,hdst⟩:=pl17_op10
   obtain rfl:=same ho' rfl;have eLa:(listed.setIfInBounds 10 true).getD 3 false=listed.getD 3 false:=by rw [listed_get hlt,if_neg (by decide)]
   have eLb:(listed.setIfInBounds 10 true).getD 6 false=listed.getD 6 false:=by rw [listed_get hlt,if_neg (by decide)]
   have eLp:(listed.setIfInBounds 10 true).getD 7 false=listed.getD 7 false:=by rw [listed_get hlt,if_neg (by decide)]
   have eLr:(listed.setIfInBounds 10 true).getD 13 false=listed.getD 13 false:=by rw [listed_get hlt,if_neg (by decide)]
   have keep:W17 At w0 w1 g r M M' q m d vr vt yb cs L bs γ ((listed.setIfInBounds 10 true).getD 3 false) ((listed.setIfInBounds 10 true).getD 6 false) ((listed.setIfInBounds 10 true).getD 7 false) ((listed.setIfInBounds 10 true).getD 13 false) w:=by rw [eLa,eLb,eLp,eLr];exact hW
   have e:a.eval (.tmp 102)=.pointer (some ⟨yb,1,none⟩):=h.get ho hdep (i:=9) (d:=102) (by kernel_rfl) rfl
   have c0:=hW.pl.blk.cell 1;rw [hcs] at c0;simp only [List.getElem?_toArray,List.getElem?_cons_zero,List.getElem?_cons_succ] at c0;exact wp_loadS _ _ hop yb 1 e _ (ld_intS w yb 1 rn c0) ⟨γ,fun _ _ => rfl,rfl,keep⟩
  ·obtain ⟨o',ho',hop,hdst⟩:=pl17_op11
   obtain rfl:=same ho' rfl;have eLa:(listed.setIfInBounds 11 true).getD 3 false=listed.getD 3 false:=by rw [listed_get hlt,if_neg (by decide)]
   have eLb:(listed.setIfInBounds 11 true).getD 6 false=listed.getD 6 false:=by rw [listed_get hlt,if_neg (by decide)]
   have eLp:(listed.setIfInBounds 11 true).getD 7 false=listed.getD 7 false:=by rw [listed_get hlt,if_neg (by decide)]
   have eLr:(listed.setIfInBounds 11 true).getD 13 false=listed.getD 13 false:=by rw [listed_get hlt,if_neg (by decide)]
   have keep:W17 At w0 w1 g r M M' q m d vr vt yb cs L bs γ ((listed.setIfInBounds 11 true).getD 3 false) ((listed.setIfInBounds 11 true).getD 6 false) ((listed.setIfInBounds 11 true).getD 7 false) ((listed.setIfInBounds 11 true).getD 13 false) w:=by rw [eLa,eLb,eLp,eLr];exact hW
   have e:a.eval (.tmp 10)=.pointer (some ⟨yb,0,none⟩):=(h.old (t:=10) (by kernel_rfl)).trans h10
   refine wp_run _ ?_ ⟨γ,fun _ _ => rfl,rfl,keep⟩
   generalize a.eval=ev at e ⊢;simp [go_sem,execOp,hop,e,pl17V]
  ·obtain ⟨o',ho',hop,hdst⟩:=pl17_op12
   obtain rfl:=same ho' rfl;have eLa:(listed.setIfInBounds 12 true).getD 3 false=listed.getD 3 false:=by rw [listed_get hlt,if_neg (by decide)]
   have eLb:(listed.setIfInBounds 12 true).getD 6 false=listed.getD 6 false:=by rw [listed_get hlt,if_neg (by decide)]
   have eLp:(listed.setIfInBounds 12 true).getD 7 false=listed.getD 7 false:=by rw [listed_get hlt,if_neg (by decide)]
   have eLr:(listed.setIfInBounds 12 true).getD 13 false=listed.getD 13 false:=by rw [listed_get hlt,if_neg (by decide)]
   have keep:W17 At w0 w1 g r M M' q m d vr vt yb cs L bs γ ((listed.setIfInBounds 12 true).getD 3 false) ((listed.setIfInBounds 12 true).getD 6 false) ((listed.setIfInBounds 12 true).getD 7 false) ((listed.setIfInBounds 12 true).getD 13 false) w:=by rw [eLa,eLb,eLp,eLr];exact hW
   have e:a.eval (.tmp 104)=.pointer (some ⟨yb,4,none⟩):=h.get ho hdep (i:=11) (d:=104) (by kernel_rfl) rfl
   have c0:=hW.pl.blk.cell 4;rw [hcs] at c0;simp only [List.getElem?_toArray,List.getElem?_cons_zero,List.getElem?_cons_succ] at c0;exact wp_loadS _ _ hop yb 4 e _ (ld_bytS w yb 4 py L cy c0) ⟨γ,fun _ _ => rfl,rfl,keep⟩
  ·obtain ⟨o',ho',hop,hdst⟩:=pl17_op13
   obtain rfl:=same ho' rfl;have eLa:(listed.setIfInBounds 13 true).getD 3 false=listed.getD 3 false:=by rw [listed_get hlt,if_neg (by decide)]
   have eLb:(listed.setIfInBounds 13 true).getD 6 false=listed.getD 6 false:=by rw [listed_get hlt,if_neg (by decide)]
   have eLp:(listed.setIfInBounds 13 true).getD 7 false=listed.getD 7 false:=by rw [listed_get hlt,if_neg (by decide)]
   have eLr:(listed.setIfInBounds 13 true).getD 13 false=true:=by rw [listed_get hlt,if_pos rfl]
   have x0:a.eval (.tmp 101)=ptrS r:=h.get ho hdep (i:=8) (d:=101) (by kernel_rfl) rfl
   have x1:a.eval (.tmp 103)=.int .i64 rn:=h.get ho hdep (i:=10) (d:=103) (by kernel_rfl) rfl
   have x2:a.eval (.tmp 105)=.slice py L cy:=h.get ho hdep (i:=12) (d:=105) (by kernel_rfl) rfl
   have hrf:=hW.pl.q.ref;rw [hlf,if_neg (by decide)] at hrf
   have hc:=rappend_any w w0.heap.size r M q m d vr vt γ.rs hrf hS hW.pl.q.bel.size hRm rn hr1 hr2 py L cy bs (hbat w hW.bel) hL (by omega) hPB
   rw [hap] at hc
   refine wp_callE _ _ _ hop #[ptrS r,.int .i64 rn,.slice py L cy] (by simp [x0,x1,x2]) (enters_of Try.func11 (by kernel_rfl) rfl) (fun v w' => v=.int .i64 cd ∧ ∃ rs',RefA w' w0.heap.size r M' q m d vr vt rs'∧Kept (refS r vr vt) w w' ∧ ∀ x ∈ rs',x ∈ γ.rs ∨ ∀ a,x.p=some a → w.heap.size≤a.block) (hc.mono fun e w' he => by
    obtain ⟨rs',he,h1,h2,h3⟩:=he
    exact ⟨_,he,rfl,rs',h1,h2,h3⟩) (fun v w' hR => ?_)
   obtain ⟨rfl,rs',h1,h2,h3⟩:=hR;refine ⟨{ γ with rs:=rs' },fun i hi => rfl,rfl,?_⟩
   have hoffk:∀ (v:Value) (n:Nat) (zs:List UInt8),OwnB w w0.heap.size v n zs → (∀ b,v.ownBlock=some b → w0.heap.size≤b∧offP γ.own r vr vt γ.rs yb b) → OwnB w' w0.heap.size v n zs ∧ ∀ b,v.ownBlock=some b → w0.heap.size≤b∧offP γ.own r vr vt rs' yb b:=fun v n zs ho hf =>
    ⟨ho.kept h2 (fun b hb => (hf b hb).2.2.1),fun b hb => ⟨(hf b hb).1,(hf b hb).2.1,(hf b hb).2.2.1,(hf b hb).2.2.2.1,fun x hx h0 a ha e => by
     rcases h3 x hx with h4 | h4
     ·exact (hf b hb).2.2.2.2 x h4 h0 a ha e
     ·have:=h4 a ha
      have:=(ho.lt b hb).2
      omega⟩⟩
   rw [eLa,eLb,eLp,eLr]
   exact { bel:=hW.bel.trans (h2.below hW.pl.q.bel.size (fun b hb => (hrf.lt b hb).1)),pl:=by
            rw [if_pos rfl]
            exact hW.pl.refd H h1 h2 (fun b hb => .inl hb) (fun x hx h0 a ha => by
             rcases h3 x hx with h4 | h4
             ·exact .inl ⟨x,h4,h0,ha⟩
             ·exact .inr (h4 a ha))
           ra:=fun g1 g2 => hoffk _ _ _ (hW.ra g1 g2).1 (hW.ra g1 g2).2,rb:=fun g1 g2 => hoffk _ _ _ (hW.rb g1 g2).1 (hW.rb g1 g2).2,cp:=hW.cp }
  ·obtain ⟨o',ho',hop,hdst⟩:=pl17_op14
   obtain rfl:=same ho' rfl;have eLa:(listed.setIfInBounds 14 true).getD 3 false=listed.getD 3 false:=by rw [listed_get hlt,if_neg (by decide)]
   have eLb:(listed.setIfInBounds 14 true).getD 6 false=listed.getD 6 false:=by rw [listed_get hlt,if_neg (by decide)]
   have eLp:(listed.setIfInBounds 14 true).getD 7 false=listed.getD 7 false:=by rw [listed_get hlt,if_neg (by decide)]
   have eLr:(listed.setIfInBounds 14 true).getD 13 false=listed.getD 13 false:=by rw [listed_get hlt,if_neg (by decide)]
   have keep:W17 At w0 w1 g r M M' q m d vr vt yb cs L bs γ ((listed.setIfInBounds 14 true).getD 3 false) ((listed.setIfInBounds 14 true).getD 6 false) ((listed.setIfInBounds 14 true).getD 7 false) ((listed.setIfInBounds 14 true).getD 13 false) w:=by rw [eLa,eLb,eLp,eLr];exact hW
   have x0:a.eval (.tmp 100)=.int .i64 cd:=h.get ho hdep (i:=7) (d:=100) (by kernel_rfl) rfl
   have x1:a.eval (.tmp 106)=.int .i64 cd:=h.get ho hdep (i:=13) (d:=106) (by kernel_rfl) rfl
   refine wp_run _ ?_ ⟨γ,fun _ _ => rfl,rfl,keep⟩
   generalize a.eval=ev at x0 x1 ⊢;simp [go_sem,execOp,hop,x0,x1,pl17V]
 ·intro γ listed a w h hall
  have all:∀ j,j < 15 → listed.getD j false=true:=fun j hj => hall j (by rw [pl17_size];exact hj)
  have hW:=h.wd;have hpl:=hW.pl;rw [all 7 (by omega),all 13 (by omega),if_pos rfl] at hpl
  rw [done_putAllG 240 pl17_apart hsz h hall,pl17_size];simp only [putAll,pl17_dst0,pl17_dst1,pl17_dst2,pl17_dst3,pl17_dst4,pl17_dst5,pl17_dst6,pl17_dst7,pl17_dst8,pl17_dst9,pl17_dst10,pl17_dst11,pl17_dst12,pl17_dst13,pl17_dst14,pl17V];exact hQ γ w hpl
 ·exact { bel:=(Below.refl _ w1).drew,pl:=by rw [no,no,if_neg (show ¬ (false=true) by decide)];exact hst.none_ H (Kept.refl noneB w1).drew,ra:=fun hx => (by rw [no] at hx;cases hx),rb:=fun hx => (by rw [no] at hx;cases hx),cp:=fun hx => (by rw [no] at hx;cases hx) }
end Go.Proofs.Ytfpoipamioaklaa.Sto
end
section
namespace Go.Proofs.Ytfpoipamioaklaa.Sto
open Go.ChangeShapes Go.WideShapes Go.ChangeAt Go.RowKit Base Byt Txt Bk Block Go.Proofs.Ytfpoipamioaklaa.Mp Go.Lib
set_option linter.unusedVariables false
set_option maxRecDepth 100000
theorem infoSl15:(Try.prog.info? 32).map (fun i => (i.zero,i.size,i.bytes))=some (some (.slice none 0 0),1,24):=by kernel_rfl
theorem infoBo15:(Try.prog.info? 4).map (fun i => (i.zero,i.size,i.bytes))=some (some (.bool false),1,1):=by kernel_rfl
section
variable {w:World} {o:Oper} {a:Act} {K:Act → World → Prop} {Q:Exit → Act → World → Prop}
theorem wp_app15 (x y:Operand) (t e:TypeId) (z:Value) (bytes:Nat) (ho:o.op=.call { callee:=.builtin .append,args:=#[x,y],argTypes:=#[t,t] }) (ht:Try.prog.underlying t=some (.slice e)) (hinfo:(Try.prog.info? e).map (fun i => (i.zero,i.size,i.bytes))=some (some z,1,bytes)) (hz:z.cells.size=1)
 (base:Nat) (v:Value) (n:Nat) (xs:List Value) (hs:a.eval x=v) (hown:w.ownsRow base e 1 v n xs) (b c:Nat) (u:Value) (hx:a.eval y=.slice (some ⟨b,0,none⟩) 1 c) (hb:w.cell? ⟨b,0,none⟩=some u) (hu:u.oneCell'=true) (hn:n≤1000) (hby:bytes≤24) (hbase:base≤w.heap.size)
 (h:∀ v' w',w'.ownsRow base e 1 v' (n+1) (xs++[u]) → w.grownBy w' v.ownBlock → NewOr w v v' → K (a.put o.dst v') w'):Oper.wp Try.prog o a w K Q:=by
 obtain ⟨i,hi,hz0,hz1,hz2⟩:=info_parts hinfo
 obtain ⟨v',w',hr,h2,h3,h4⟩:=run_append_new (P:=Try.prog) base t o.type e i z bytes ht hi hz0 hz1 hz2 hz v n xs hown ⟨b,0,none⟩ 1 c [u] rfl (fun j u' hj => by
  cases j with
  | zero =>
    simp only [List.getElem?_cons_zero,Option.some.injEq] at hj;subst hj;exact hb
  | succ j => simp at hj) (fun u' hu' => by rw [List.mem_singleton.1 hu'];exact hu) (by unfold maxLen;omega) (by
  have:(n+1) * bytes≤1001 * 24:=Nat.mul_le_mul (by omega) hby
  omega) hbase
 have hr2:(execOp a.eval o).run Try.prog w=.ok (.value v') w':=by simp [execOp,ho,resolve,invoke,builtin,hs,hx,hr,Result.andThen]
 unfold Oper.wp;rw [hr2,Oper.upon_value];exact h v' w' h2 h3 h4
theorem wp_storeSl (T:TypeId) (hT:T=28 ∨ T=29) (p x:Operand) (ho:o.op=.store T p x) (b i:Nat) (hp:a.eval p=.pointer (some ⟨b,i,none⟩)) (s:Option Addr) (n c:Nat) (hx:a.eval x=.slice s n c) (u:Value) (hc:w.cell? ⟨b,i,none⟩=some u) (hf:w.frozen? ⟨b,i,none⟩=false)
 (hK:K (a.put o.dst undef) (w.setCell ⟨b,i,none⟩ (.slice s n c))):Oper.wp Try.prog o a w K Q:=by
 have hr:(execOp a.eval o).run Try.prog w=.ok .skip (w.setCell ⟨b,i,none⟩ (.slice s n c)):=by
  generalize a.eval=ev at hp hx;rcases hT with rfl | rfl
  ·simp [go_sem,execOp,ho,hp,hx,hc,hf,Result.andThen]
  ·simp [go_sem,execOp,ho,hp,hx,hc,hf,Result.andThen]
 unfold Oper.wp;rw [hr,Oper.upon_skip];exact hK
end
theorem ld_rowsS (w:World) (b i:Nat) (p:Option Addr) (n c:Nat) (hc:w.cell? ⟨b,i,none⟩=some (.slice p n c)):(Instr.loadAt 28 (.pointer (some ⟨b,i,none⟩))).run Try.prog w=.ok (.slice p n c) w:=by go_simp
theorem ld_boolS (w:World) (b i:Nat) (p:Option Addr) (n c:Nat) (hc:w.cell? ⟨b,i,none⟩=some (.slice p n c)):(Instr.loadAt 29 (.pointer (some ⟨b,i,none⟩))).run Try.prog w=.ok (.slice p n c) w:=by go_simp
theorem bs_rowsS (w:World):(Instr.buildSlice 28 1 #[(0,.slice none 0 0)]).run Try.prog w=.ok (.slice (some ⟨w.heap.size,0,none⟩) 1 1) (w.alloc (.cells #[.slice none 0 0] 32)):=by kernel_rfl
theorem bs_boolS (w:World):(Instr.buildSlice 29 1 #[(0,.bool true)]).run Try.prog w=.ok (.slice (some ⟨w.heap.size,0,none⟩) 1 1) (w.alloc (.cells #[.bool true] 4)):=by kernel_rfl
noncomputable def pl15Ops:Array Oper:=regionAt Try.f3 15
structure G15 where
 vc:Value
 vd:Value
 v2:Value
 v3:Value
def pl15V (r:Nat) (vr vt:Value) (γ:G15):Nat → Value
 | 0 => ptrS r | 1 => ptrS r | 2 => ptrS r | 3 => ptrS r | 4 => .pointer (some ⟨r,2,none⟩) | 5 => vr | 6 => γ.vc | 7 => γ.v2 | 8 => ptrS r | 9 => ptrS r | 10 => .pointer (some ⟨r,3,none⟩) | 11 => vt | 12 => γ.vd | 13 => γ.v3 | 14 => ptrS r | 15 => .pointer (some ⟨r,2,none⟩) | 17 => ptrS r | 18 => .pointer (some ⟨r,3,none⟩) | _ => undef
theorem pl15_size:pl15Ops.size=20:=rfl
theorem pl15_apart:apartG pl15Ops 240=true:=by kernel_rfl
theorem pl15_dst0:dstAt pl15Ops 0=some 73:=rfl
theorem pl15_op0:∃ o,pl15Ops[0]? = some o∧o.op=.move (.tmp 8)∧o.dst=some 73:=⟨_,rfl,rfl,rfl⟩
theorem pl15_dst1:dstAt pl15Ops 1=some 74:=rfl
theorem pl15_op1:∃ o,pl15Ops[1]? = some o∧o.op=.move (.tmp 8)∧o.dst=some 74:=⟨_,rfl,rfl,rfl⟩
theorem pl15_dst2:dstAt pl15Ops 2=some 75:=rfl
theorem pl15_op2:∃ o,pl15Ops[2]? = some o∧o.op=.move (.tmp 8)∧o.dst=some 75:=⟨_,rfl,rfl,rfl⟩
theorem pl15_dst3:dstAt pl15Ops 3=some 76:=rfl
theorem pl15_op3:∃ o,pl15Ops[3]? = some o∧o.op=.nilCheck (.tmp 75)∧o.dst=some 76:=⟨_,rfl,rfl,rfl⟩
theorem pl15_dst4:dstAt pl15Ops 4=some 77:=rfl
theorem pl15_op4:∃ o,pl15Ops[4]? = some o∧o.op=.fieldAddr 31 (.tmp 76) 2∧o.dst=some 77:=⟨_,rfl,rfl,rfl⟩
theorem pl15_dst5:dstAt pl15Ops 5=some 78:=rfl
theorem pl15_op5:∃ o,pl15Ops[5]? = some o∧o.op=.load 28 (.tmp 77)∧o.dst=some 78:=⟨_,rfl,rfl,rfl⟩
theorem pl15_dst6:dstAt pl15Ops 6=some 79:=rfl
theorem pl15_op6:∃ o,pl15Ops[6]? = some o∧o.op=.buildSlice 28 1 #[(0,.const (.slice none 0 0))]∧o.dst=some 79:=⟨_,rfl,rfl,rfl⟩
theorem pl15_dst7:dstAt pl15Ops 7=some 80:=rfl
theorem pl15_op7:∃ o,pl15Ops[7]? = some o∧o.op=.call { callee:=.builtin .append,args:=#[.tmp 78,.tmp 79],argTypes:=#[28,28] }∧o.dst=some 80:=⟨_,rfl,rfl,rfl⟩
theorem pl15_dst8:dstAt pl15Ops 8=some 81:=rfl
theorem pl15_op8:∃ o,pl15Ops[8]? = some o∧o.op=.move (.tmp 8)∧o.dst=some 81:=⟨_,rfl,rfl,rfl⟩
theorem pl15_dst9:dstAt pl15Ops 9=some 82:=rfl
theorem pl15_op9:∃ o,pl15Ops[9]? = some o∧o.op=.nilCheck (.tmp 81)∧o.dst=some 82:=⟨_,rfl,rfl,rfl⟩
theorem pl15_dst10:dstAt pl15Ops 10=some 83:=rfl
theorem pl15_op10:∃ o,pl15Ops[10]? = some o∧o.op=.fieldAddr 31 (.tmp 82) 3∧o.dst=some 83:=⟨_,rfl,rfl,rfl⟩
theorem pl15_dst11:dstAt pl15Ops 11=some 84:=rfl
theorem pl15_op11:∃ o,pl15Ops[11]? = some o∧o.op=.load 29 (.tmp 83)∧o.dst=some 84:=⟨_,rfl,rfl,rfl⟩
theorem pl15_dst12:dstAt pl15Ops 12=some 85:=rfl
theorem pl15_op12:∃ o,pl15Ops[12]? = some o∧o.op=.buildSlice 29 1 #[(0,.const (.bool true))]∧o.dst=some 85:=⟨_,rfl,rfl,rfl⟩
theorem pl15_dst13:dstAt pl15Ops 13=some 86:=rfl
theorem pl15_op13:∃ o,pl15Ops[13]? = some o∧o.op=.call { callee:=.builtin .append,args:=#[.tmp 84,.tmp 85],argTypes:=#[29,29] }∧o.dst=some 86:=⟨_,rfl,rfl,rfl⟩
theorem pl15_dst14:dstAt pl15Ops 14=some 87:=rfl
theorem pl15_op14:∃ o,pl15Ops[14]? = some o∧o.op=.nilCheck (.tmp 73)∧o.dst=some 87:=⟨_,rfl,rfl,rfl⟩
theorem pl15_dst15:dstAt pl15Ops 15=some 88:=rfl
theorem pl15_op15:∃ o,pl15Ops[15]? = some o∧o.op=.fieldAddr 31 (.tmp 87) 2∧o.dst=some 88:=⟨_,rfl,rfl,rfl⟩
theorem pl15_dst16:dstAt pl15Ops 16=none:=rfl
theorem pl15_op16:∃ o,pl15Ops[16]? = some o∧o.op=.store 28 (.tmp 88) (.tmp 80)∧o.dst=none:=⟨_,rfl,rfl,rfl⟩
theorem pl15_dst17:dstAt pl15Ops 17=some 89:=rfl
theorem pl15_op17:∃ o,pl15Ops[17]? = some o∧o.op=.nilCheck (.tmp 74)∧o.dst=some 89:=⟨_,rfl,rfl,rfl⟩
theorem pl15_dst18:dstAt pl15Ops 18=some 90:=rfl
theorem pl15_op18:∃ o,pl15Ops[18]? = some o∧o.op=.fieldAddr 31 (.tmp 89) 3∧o.dst=some 90:=⟨_,rfl,rfl,rfl⟩
theorem pl15_dst19:dstAt pl15Ops 19=none:=rfl
theorem pl15_op19:∃ o,pl15Ops[19]? = some o∧o.op=.store 29 (.tmp 90) (.tmp 86)∧o.dst=none:=⟨_,rfl,rfl,rfl⟩
theorem pl15V_vc (r:Nat) (vr vt:Value) (γ:G15) (z:Value) {i:Nat} (h:i≠6):pl15V r vr vt { γ with vc:=z } i=pl15V r vr vt γ i:=by
 unfold pl15V
 split<;>first | rfl | exact absurd rfl h
theorem pl15V_v2 (r:Nat) (vr vt:Value) (γ:G15) (z:Value) {i:Nat} (h:i≠7):pl15V r vr vt { γ with v2:=z } i=pl15V r vr vt γ i:=by
 unfold pl15V
 split<;>first | rfl | exact absurd rfl h
theorem pl15V_vd (r:Nat) (vr vt:Value) (γ:G15) (z:Value) {i:Nat} (h:i≠12):pl15V r vr vt { γ with vd:=z } i=pl15V r vr vt γ i:=by
 unfold pl15V
 split<;>first | rfl | exact absurd rfl h
theorem pl15V_v3 (r:Nat) (vr vt:Value) (γ:G15) (z:Value) {i:Nat} (h:i≠13):pl15V r vr vt { γ with v3:=z } i=pl15V r vr vt γ i:=by
 unfold pl15V
 split<;>first | rfl | exact absurd rfl h
structure W15 (B:Nat) (w1:World) (r:Nat) (M:SM) (q:Option Addr) (m d:Nat) (vr vt:Value) (rs:List RR) (γ:G15) (La Lb Lc Ld Le Lf Lg Lh:Bool) (w:World):Prop where
 kept:Kept (refS r vr vt) w1 w
 obj:Blk w r 31 #[.int .i64 (M.room:Nat),.slice q m d,(if Le=true then γ.v2 else vr),(if Lf=true then γ.v3 else vt),.int .i64 (M.writes:Nat),.int .i64 (M.peak:Nat)]
 r1:Lb=false → w.ownsRow B 32 1 vr rs.length (rs.map RR.cell)
 r2:Lb=true → w.ownsRow B 32 1 γ.v2 (rs.length+1) (rs.map RR.cell++[.slice none 0 0])∧NewOr w1 vr γ.v2
 t1:Ld=false → w.ownsRow B 4 1 vt rs.length (rs.map fun x => .bool x.t)
 t2:Ld=true → w.ownsRow B 4 1 γ.v3 (rs.length+1) ((rs.map fun x => Value.bool x.t)++[.bool true])∧NewOr w1 vt γ.v3
 c1:La=true → Lb=false → ∃ b,γ.vc=.slice (some ⟨b,0,none⟩) 1 1∧Blk w b 32 #[.slice none 0 0]∧w1.heap.size≤b
 d1:Lc=true → Ld=false → ∃ b,γ.vd=.slice (some ⟨b,0,none⟩) 1 1∧Blk w b 4 #[.bool true]∧w1.heap.size≤b
 ce:Le=true → Lb=true∧Lg=true
 cf:Lf=true → Ld=true∧Lh=true
section
variable {B:Nat} {w1:World} {r:Nat} {M:SM} {q:Option Addr} {m d:Nat} {vr vt:Value} {rs:List RR} {γ:G15} {La Lb Lc Ld Le Lf Lg Lh:Bool} {w w':World} {S:Nat → Prop}
theorem W15.kR1 (h:W15 B w1 r M q m d vr vt rs γ La Lb Lc Ld Le Lf Lg Lh w) (hk:Kept S w w') (hv:∀ b,vr.ownBlock=some b → ¬ S b) (e:Lb=false):w'.ownsRow B 32 1 vr rs.length (rs.map RR.cell):=ownsRow_kept (h.r1 e) hk hv
theorem W15.kR2 (h:W15 B w1 r M q m d vr vt rs γ La Lb Lc Ld Le Lf Lg Lh w) (hk:Kept S w w') (hS:∀ b,S b → b < w1.heap.size) (hv:∀ b,vr.ownBlock=some b → ¬ S b) (e:Lb=true):w'.ownsRow B 32 1 γ.v2 (rs.length+1) (rs.map RR.cell++[.slice none 0 0])∧NewOr w1 vr γ.v2:=
 ⟨ownsRow_kept (h.r2 e).1 hk (fun b hb hs => by
  rcases (h.r2 e).2 b hb with h1 | h1
  ·exact hv b h1 hs
  ·have:=hS b hs;omega),(h.r2 e).2⟩
theorem W15.kT1 (h:W15 B w1 r M q m d vr vt rs γ La Lb Lc Ld Le Lf Lg Lh w) (hk:Kept S w w') (hv:∀ b,vt.ownBlock=some b → ¬ S b) (e:Ld=false):w'.ownsRow B 4 1 vt rs.length (rs.map fun x => .bool x.t):=ownsRow_kept (h.t1 e) hk hv
theorem W15.kT2 (h:W15 B w1 r M q m d vr vt rs γ La Lb Lc Ld Le Lf Lg Lh w) (hk:Kept S w w') (hS:∀ b,S b → b < w1.heap.size) (hv:∀ b,vt.ownBlock=some b → ¬ S b) (e:Ld=true):w'.ownsRow B 4 1 γ.v3 (rs.length+1) ((rs.map fun x => Value.bool x.t)++[.bool true])∧NewOr w1 vt γ.v3:=
 ⟨ownsRow_kept (h.t2 e).1 hk (fun b hb hs => by
  rcases (h.t2 e).2 b hb with h1 | h1
  ·exact hv b h1 hs
  ·have:=hS b hs;omega),(h.t2 e).2⟩
theorem W15.kC (h:W15 B w1 r M q m d vr vt rs γ La Lb Lc Ld Le Lf Lg Lh w) (hk:Kept S w w') (hS:∀ b,S b → b < w1.heap.size) (e1:La=true) (e2:Lb=false):∃ b,γ.vc=.slice (some ⟨b,0,none⟩) 1 1∧Blk w' b 32 #[.slice none 0 0]∧w1.heap.size≤b:=by
 obtain ⟨b,g1,g2,g3⟩:=h.c1 e1 e2;exact ⟨b,g1,g2.keptS hk (fun hs => by have:=hS b hs;omega),g3⟩
theorem W15.kD (h:W15 B w1 r M q m d vr vt rs γ La Lb Lc Ld Le Lf Lg Lh w) (hk:Kept S w w') (hS:∀ b,S b → b < w1.heap.size) (e1:Lc=true) (e2:Ld=false):∃ b,γ.vd=.slice (some ⟨b,0,none⟩) 1 1∧Blk w' b 4 #[.bool true]∧w1.heap.size≤b:=by
 obtain ⟨b,g1,g2,g3⟩:=h.d1 e1 e2;exact ⟨b,g1,g2.keptS hk (fun hs => by have:=hS b hs;omega),g3⟩
end
set_option maxHeartbeats 4000000 in
theorem pl15_region {Q':Exit → Act → World → Prop} {a0:Act} {B:Nat} {w1:World} {r:Nat} {M:SM} {q:Option Addr} {m d:Nat} {vr vt:Value} {rs:List RR} (h:RefA w1 B r M q m d vr vt rs) (hn:rs.length≤1000) (hB:B≤w1.heap.size)
 (hsz:240≤a0.tmps.size) (h8:a0.eval (.tmp 8)=ptrS r)
 (hQ:∀ (γ:G15) w',RefA w' B r (createS M) q m d γ.v2 γ.v3 (rs++[⟨[],true,none,0⟩]) → Kept (refS r vr vt) w1 w' → (∀ b,refS r γ.v2 γ.v3 b → refS r vr vt b ∨ w1.heap.size≤b) → Q' .normal (((((((((((((((((((a0).put (some 73) (ptrS r)).put (some 74) (ptrS r)).put (some 75) (ptrS r)).put (some 76) (ptrS r)).put (some 77) (.pointer (some ⟨r,2,none⟩))).put (some 78) (vr)).put (some 79) (γ.vc)).put (some 80) (γ.v2)).put (some 81) (ptrS r)).put (some 82) (ptrS r)).put (some 83) (.pointer (some ⟨r,3,none⟩))).put (some 84) (vt)).put (some 85) (γ.vd)).put (some 86) (γ.v3)).put (some 87) (ptrS r)).put (some 88) (.pointer (some ⟨r,2,none⟩))).put (some 89) (ptrS r)).put (some 90) (.pointer (some ⟨r,3,none⟩))) w') :
 wpAny Try.prog .any pl15Ops Q' pl15Ops.size (Array.replicate pl15Ops.size false) a0 w1.drew:=by
 have no:∀ j,(Array.replicate pl15Ops.size false).getD j false=false:=fun j => by
  rw [Array.getD_eq_getD_getElem?,Array.getElem?_replicate]
  split<;>rfl
 obtain ⟨pr,cr,hvr,_,_,_⟩:=own_form h.runs;obtain ⟨pt,ct,hvt,_,_,_⟩:=own_form h.there;have hor:∀ b,vr.ownBlock=some b → B≤b∧b < w1.heap.size:=fun b hb => h.runs.lt b hb
 have hot:∀ b,vt.ownBlock=some b → B≤b∧b < w1.heap.size:=fun b hb => h.there.lt b hb
 have hrl:=h.obj.lt;have hne:=h.ne_rv;refine wpAny_ghost (Γ:=G15) (pl15V r vr vt) { vc:=undef,vd:=undef,v2:=undef,v3:=undef } a0 (fun γ listed w => W15 B w1 r M q m d vr vt rs γ (listed.getD 6 false) (listed.getD 7 false) (listed.getD 12 false) (listed.getD 13 false) (listed.getD 16 false) (listed.getD 19 false) (listed.getD 5 false) (listed.getD 11 false) w) 240 pl15_apart hsz ?_ ?_ ?_
 ·intro γ listed a w j o hI ho hun hdep
  have hlt:=lt_of_unlisted hun;have hW:=hI.wd
  have hj:j < 20:=by
   have:=(Array.getElem?_eq_some_iff.1 ho).1
   rwa [pl15_size] at this
  have same:∀ {j':Nat} {o':Oper},pl15Ops[j']? = some o' → j=j' → o'=o:=fun {j' o'} h' e => by subst e;exact Option.some.inj (h'.symm.trans ho)
  have hlf:=getD_flip hun;have hni:∀ i,listed.getD i false=true → i≠j:=fun i hi e => by rw [e,hlf] at hi;cases hi
  have hBw:B≤w.heap.size:=Nat.le_trans hB hW.kept.size;rcases (show j=0 ∨ j=1 ∨ j=2 ∨ j=3 ∨ j=4 ∨ j=5 ∨ j=6 ∨ j=7 ∨ j=8 ∨ j=9 ∨ j=10 ∨ j=11 ∨ j=12 ∨ j=13 ∨ j=14 ∨ j=15 ∨ j=16 ∨ j=17 ∨ j=18 ∨ j=19 by omega) with rfl | rfl | rfl | rfl | rfl | rfl | rfl | rfl | rfl | rfl | rfl | rfl | rfl | rfl | rfl | rfl | rfl | rfl | rfl | rfl
  ·obtain ⟨o',ho',hop,hdst⟩:=pl15_op0
   obtain rfl:=same ho' rfl;have eLa:(listed.setIfInBounds 0 true).getD 6 false=listed.getD 6 false:=by rw [listed_get hlt,if_neg (by decide)]
   have eLb:(listed.setIfInBounds 0 true).getD 7 false=listed.getD 7 false:=by rw [listed_get hlt,if_neg (by decide)]
   have eLc:(listed.setIfInBounds 0 true).getD 12 false=listed.getD 12 false:=by rw [listed_get hlt,if_neg (by decide)]
   have eLd:(listed.setIfInBounds 0 true).getD 13 false=listed.getD 13 false:=by rw [listed_get hlt,if_neg (by decide)]
   have eLe:(listed.setIfInBounds 0 true).getD 16 false=listed.getD 16 false:=by rw [listed_get hlt,if_neg (by decide)]
   have eLf:(listed.setIfInBounds 0 true).getD 19 false=listed.getD 19 false:=by rw [listed_get hlt,if_neg (by decide)]
   have eLg:(listed.setIfInBounds 0 true).getD 5 false=listed.getD 5 false:=by rw [listed_get hlt,if_neg (by decide)]
   have eLh:(listed.setIfInBounds 0 true).getD 11 false=listed.getD 11 false:=by rw [listed_get hlt,if_neg (by decide)]
   have keep:W15 B w1 r M q m d vr vt rs γ ((listed.setIfInBounds 0 true).getD 6 false) ((listed.setIfInBounds 0 true).getD 7 false) ((listed.setIfInBounds 0 true).getD 12 false) ((listed.setIfInBounds 0 true).getD 13 false) ((listed.setIfInBounds 0 true).getD 16 false) ((listed.setIfInBounds 0 true).getD 19 false) ((listed.setIfInBounds 0 true).getD 5 false) ((listed.setIfInBounds 0 true).getD 11 false) w:=by rw [eLa,eLb,eLc,eLd,eLe,eLf,eLg,eLh];exact hW
   exact wp_move _ _ (Or.inl hop) ((hI.old (t:=8) (by kernel_rfl)).trans h8) ⟨γ,fun _ _ => rfl,rfl,keep⟩
  ·obtain ⟨o',ho',hop,hdst⟩:=pl15_op1
   obtain rfl:=same ho' rfl;have eLa:(listed.setIfInBounds 1 true).getD 6 false=listed.getD 6 false:=by rw [listed_get hlt,if_neg (by decide)]
   have eLb:(listed.setIfInBounds 1 true).getD 7 false=listed.getD 7 false:=by rw [listed_get hlt,if_neg (by decide)]
   have eLc:(listed.setIfInBounds 1 true).getD 12 false=listed.getD 12 false:=by rw [listed_get hlt,if_neg (by decide)]
   have eLd:(listed.setIfInBounds 1 true).getD 13 false=listed.getD 13 false:=by rw [listed_get hlt,if_neg (by decide)]
   have eLe:(listed.setIfInBounds 1 true).getD 16 false=listed.getD 16 false:=by rw [listed_get hlt,if_neg (by decide)]
   have eLf:(listed.setIfInBounds 1 true).getD 19 false=listed.getD 19 false:=by rw [listed_get hlt,if_neg (by decide)]
   have eLg:(listed.setIfInBounds 1 true).getD 5 false=listed.getD 5 false:=by rw [listed_get hlt,if_neg (by decide)]
   have eLh:(listed.setIfInBounds 1 true).getD 11 false=listed.getD 11 false:=by rw [listed_get hlt,if_neg (by decide)]
   have keep:W15 B w1 r M q m d vr vt rs γ ((listed.setIfInBounds 1 true).getD 6 false) ((listed.setIfInBounds 1 true).getD 7 false) ((listed.setIfInBounds 1 true).getD 12 false) ((listed.setIfInBounds 1 true).getD 13 false) ((listed.setIfInBounds 1 true).getD 16 false) ((listed.setIfInBounds 1 true).getD 19 false) ((listed.setIfInBounds 1 true).getD 5 false) ((listed.setIfInBounds 1 true).getD 11 false) w:=by rw [eLa,eLb,eLc,eLd,eLe,eLf,eLg,eLh];exact hW
   exact wp_move _ _ (Or.inl hop) ((hI.old (t:=8) (by kernel_rfl)).trans h8) ⟨γ,fun _ _ => rfl,rfl,keep⟩
  ·obtain ⟨o',ho',hop,hdst⟩:=pl15_op2
   obtain rfl:=same ho' rfl;have eLa:(listed.setIfInBounds 2 true).getD 6 false=listed.getD 6 false:=by rw [listed_get hlt,if_neg (by decide)]
   have eLb:(listed.setIfInBounds 2 true).getD 7 false=listed.getD 7 false:=by rw [listed_get hlt,if_neg (by decide)]
   have eLc:(listed.setIfInBounds 2 true).getD 12 false=listed.getD 12 false:=by rw [listed_get hlt,if_neg (by decide)]
   have eLd:(listed.setIfInBounds 2 true).getD 13 false=listed.getD 13 false:=by rw [listed_get hlt,if_neg (by decide)]
   have eLe:(listed.setIfInBounds 2 true).getD 16 false=listed.getD 16 false:=by rw [listed_get hlt,if_neg (by decide)]
   have eLf:(listed.setIfInBounds 2 true).getD 19 false=listed.getD 19 false:=by rw [listed_get hlt,if_neg (by decide)]
   have eLg:(listed.setIfInBounds 2 true).getD 5 false=listed.getD 5 false:=by rw [listed_get hlt,if_neg (by decide)]
   have eLh:(listed.setIfInBounds 2 true).getD 11 false=listed.getD 11 false:=by rw [listed_get hlt,if_neg (by decide)]
   have keep:W15 B w1 r M q m d vr vt rs γ ((listed.setIfInBounds 2 true).getD 6 false) ((listed.setIfInBounds 2 true).getD 7 false) ((listed.setIfInBounds 2 true).getD 12 false) ((listed.setIfInBounds 2 true).getD 13 false) ((listed.setIfInBounds 2 true).getD 16 false) ((listed.setIfInBounds 2 true).getD 19 false) ((listed.setIfInBounds 2 true).getD 5 false) ((listed.setIfInBounds 2 true).getD 11 false) w:=by rw [eLa,eLb,eLc,eLd,eLe,eLf,eLg,eLh];exact hW
   exact wp_move _ _ (Or.inl hop) ((hI.old (t:=8) (by kernel_rfl)).trans h8) ⟨γ,fun _ _ => rfl,rfl,keep⟩
  ·obtain ⟨o',ho',hop,hdst⟩:=pl15_op3
   obtain rfl:=same ho' rfl;have eLa:(listed.setIfInBounds 3 true).getD 6 false=listed.getD 6 false:=by rw [listed_get hlt,if_neg (by decide)]
   have eLb:(listed.setIfInBounds 3 true).getD 7 false=listed.getD 7 false:=by rw [listed_get hlt,if_neg (by decide)]
   have eLc:(listed.setIfInBounds 3 true).getD 12 false=listed.getD 12 false:=by rw [listed_get hlt,if_neg (by decide)]
   have eLd:(listed.setIfInBounds 3 true).getD 13 false=listed.getD 13 false:=by rw [listed_get hlt,if_neg (by decide)]
   have eLe:(listed.setIfInBounds 3 true).getD 16 false=listed.getD 16 false:=by rw [listed_get hlt,if_neg (by decide)]
   have eLf:(listed.setIfInBounds 3 true).getD 19 false=listed.getD 19 false:=by rw [listed_get hlt,if_neg (by decide)]
   have eLg:(listed.setIfInBounds 3 true).getD 5 false=listed.getD 5 false:=by rw [listed_get hlt,if_neg (by decide)]
   have eLh:(listed.setIfInBounds 3 true).getD 11 false=listed.getD 11 false:=by rw [listed_get hlt,if_neg (by decide)]
   have keep:W15 B w1 r M q m d vr vt rs γ ((listed.setIfInBounds 3 true).getD 6 false) ((listed.setIfInBounds 3 true).getD 7 false) ((listed.setIfInBounds 3 true).getD 12 false) ((listed.setIfInBounds 3 true).getD 13 false) ((listed.setIfInBounds 3 true).getD 16 false) ((listed.setIfInBounds 3 true).getD 19 false) ((listed.setIfInBounds 3 true).getD 5 false) ((listed.setIfInBounds 3 true).getD 11 false) w:=by rw [eLa,eLb,eLc,eLd,eLe,eLf,eLg,eLh];exact hW
   have e:a.eval (.tmp 75)=ptrS r:=hI.get ho hdep (i:=2) (d:=75) (by kernel_rfl) rfl
   refine wp_run _ ?_ ⟨γ,fun _ _ => rfl,rfl,keep⟩
   generalize a.eval=ev at e ⊢;simp [go_sem,execOp,hop,e,pl15V]
  ·obtain ⟨o',ho',hop,hdst⟩:=pl15_op4
   obtain rfl:=same ho' rfl;have eLa:(listed.setIfInBounds 4 true).getD 6 false=listed.getD 6 false:=by rw [listed_get hlt,if_neg (by decide)]
   have eLb:(listed.setIfInBounds 4 true).getD 7 false=listed.getD 7 false:=by rw [listed_get hlt,if_neg (by decide)]
   have eLc:(listed.setIfInBounds 4 true).getD 12 false=listed.getD 12 false:=by rw [listed_get hlt,if_neg (by decide)]
   have eLd:(listed.setIfInBounds 4 true).getD 13 false=listed.getD 13 false:=by rw [listed_get hlt,if_neg (by decide)]
   have eLe:(listed.setIfInBounds 4 true).getD 16 false=listed.getD 16 false:=by rw [listed_get hlt,if_neg (by decide)]
   have eLf:(listed.setIfInBounds 4 true).getD 19 false=listed.getD 19 false:=by rw [listed_get hlt,if_neg (by decide)]
   have eLg:(listed.setIfInBounds 4 true).getD 5 false=listed.getD 5 false:=by rw [listed_get hlt,if_neg (by decide)]
   have eLh:(listed.setIfInBounds 4 true).getD 11 false=listed.getD 11 false:=by rw [listed_get hlt,if_neg (by decide)]
   have keep:W15 B w1 r M q m d vr vt rs γ ((listed.setIfInBounds 4 true).getD 6 false) ((listed.setIfInBounds 4 true).getD 7 false) ((listed.setIfInBounds 4 true).getD 12 false) ((listed.setIfInBounds 4 true).getD 13 false) ((listed.setIfInBounds 4 true).getD 16 false) ((listed.setIfInBounds 4 true).getD 19 false) ((listed.setIfInBounds 4 true).getD 5 false) ((listed.setIfInBounds 4 true).getD 11 false) w:=by rw [eLa,eLb,eLc,eLd,eLe,eLf,eLg,eLh];exact hW
   have e:a.eval (.tmp 76)=ptrS r:=hI.get ho hdep (i:=3) (d:=76) (by kernel_rfl) rfl
   refine wp_run _ ?_ ⟨γ,fun _ _ => rfl,rfl,keep⟩
   generalize a.eval=ev at e ⊢;simp [go_sem,execOp,hop,e,pl15V]
  ·obtain ⟨o',ho',hop,hdst⟩:=pl15_op5
   obtain rfl:=same ho' rfl;have eLa:(listed.setIfInBounds 5 true).getD 6 false=listed.getD 6 false:=by rw [listed_get hlt,if_neg (by decide)]
   have eLb:(listed.setIfInBounds 5 true).getD 7 false=listed.getD 7 false:=by rw [listed_get hlt,if_neg (by decide)]
   have eLc:(listed.setIfInBounds 5 true).getD 12 false=listed.getD 12 false:=by rw [listed_get hlt,if_neg (by decide)]
   have eLd:(listed.setIfInBounds 5 true).getD 13 false=listed.getD 13 false:=by rw [listed_get hlt,if_neg (by decide)]
   have eLe:(listed.setIfInBounds 5 true).getD 16 false=listed.getD 16 false:=by rw [listed_get hlt,if_neg (by decide)]
   have eLf:(listed.setIfInBounds 5 true).getD 19 false=listed.getD 19 false:=by rw [listed_get hlt,if_neg (by decide)]
   have eLg:(listed.setIfInBounds 5 true).getD 5 false=true:=by rw [listed_get hlt,if_pos rfl]
   have eLh:(listed.setIfInBounds 5 true).getD 11 false=listed.getD 11 false:=by rw [listed_get hlt,if_neg (by decide)]
   have n16:listed.getD 16 false=false:=by
    cases hx:listed.getD 16 false with
    | false => rfl
    | true => have:=(hW.ce hx).2;rw [hlf] at this;cases this
   have e:a.eval (.tmp 77)=.pointer (some ⟨r,2,none⟩):=hI.get ho hdep (i:=4) (d:=77) (by kernel_rfl) rfl
   have hob:=hW.obj;rw [n16,if_neg (show ¬ (false=true) by decide),hvr] at hob
   have c0:=hob.cell 2;simp only [List.getElem?_toArray,List.getElem?_cons_zero,List.getElem?_cons_succ] at c0;refine wp_loadS _ _ hop r 2 e _ (ld_rowsS w r 2 pr rs.length cr c0) ⟨γ,fun _ _ => rfl,by rw [← hvr];rfl,?_⟩
   rw [eLa,eLb,eLc,eLd,eLe,eLf,eLg,eLh];exact { kept:=hW.kept,obj:=hW.obj,r1:=hW.r1,r2:=hW.r2,t1:=hW.t1,t2:=hW.t2,c1:=hW.c1,d1:=hW.d1,ce:=fun hx => ⟨(hW.ce hx).1,rfl⟩,cf:=hW.cf }
  ·obtain ⟨o',ho',hop,hdst⟩:=pl15_op6
   obtain rfl:=same ho' rfl;have eLa:(listed.setIfInBounds 6 true).getD 6 false=true:=by rw [listed_get hlt,if_pos rfl]
   have eLb:(listed.setIfInBounds 6 true).getD 7 false=listed.getD 7 false:=by rw [listed_get hlt,if_neg (by decide)]
   have eLc:(listed.setIfInBounds 6 true).getD 12 false=listed.getD 12 false:=by rw [listed_get hlt,if_neg (by decide)]
   have eLd:(listed.setIfInBounds 6 true).getD 13 false=listed.getD 13 false:=by rw [listed_get hlt,if_neg (by decide)]
   have eLe:(listed.setIfInBounds 6 true).getD 16 false=listed.getD 16 false:=by rw [listed_get hlt,if_neg (by decide)]
   have eLf:(listed.setIfInBounds 6 true).getD 19 false=listed.getD 19 false:=by rw [listed_get hlt,if_neg (by decide)]
   have eLg:(listed.setIfInBounds 6 true).getD 5 false=listed.getD 5 false:=by rw [listed_get hlt,if_neg (by decide)]
   have eLh:(listed.setIfInBounds 6 true).getD 11 false=listed.getD 11 false:=by rw [listed_get hlt,if_neg (by decide)]
   have hq:=bs_rowsS w
   have hr:(execOp a.eval o').run Try.prog w=.ok (.value (.slice (some ⟨w.heap.size,0,none⟩) 1 1)) (w.alloc (.cells #[.slice none 0 0] 32)):=by
    have ec:a.eval (.const (.slice none 0 0))=.slice none 0 0:=rfl;simp [execOp,hop,hq,ec,Result.andThen]
   have hk:Kept noneB w (w.alloc (.cells #[.slice none 0 0] 32)):=(Kept.refl noneB w).alloc _;have hS:∀ b,noneB b → b < w1.heap.size:=fun _ h => h.elim
   unfold Oper.wp;rw [hr,Oper.upon_value];refine ⟨{ γ with vc:=.slice (some ⟨w.heap.size,0,none⟩) 1 1 },fun i hi => pl15V_vc _ _ _ _ _ (hni i hi),rfl,?_⟩
   rw [eLa,eLb,eLc,eLd,eLe,eLf,eLg,eLh];exact { kept:=hW.kept.then hk (fun _ h => h.elim),obj:=hW.obj.keptS hk (fun h => h),r1:=hW.kR1 hk (fun _ _ h => h),r2:=hW.kR2 hk hS (fun _ _ h => h),t1:=hW.kT1 hk (fun _ _ h => h),t2:=hW.kT2 hk hS (fun _ _ h => h),c1:=fun _ _ => ⟨w.heap.size,rfl,Blk.new w _ _,hW.kept.size⟩,d1:=hW.kD hk hS,ce:=hW.ce,cf:=hW.cf }
  ·obtain ⟨o',ho',hop,hdst⟩:=pl15_op7
   obtain rfl:=same ho' rfl;have eLa:(listed.setIfInBounds 7 true).getD 6 false=listed.getD 6 false:=by rw [listed_get hlt,if_neg (by decide)]
   have eLb:(listed.setIfInBounds 7 true).getD 7 false=true:=by rw [listed_get hlt,if_pos rfl]
   have eLc:(listed.setIfInBounds 7 true).getD 12 false=listed.getD 12 false:=by rw [listed_get hlt,if_neg (by decide)]
   have eLd:(listed.setIfInBounds 7 true).getD 13 false=listed.getD 13 false:=by rw [listed_get hlt,if_neg (by decide)]
   have eLe:(listed.setIfInBounds 7 true).getD 16 false=listed.getD 16 false:=by rw [listed_get hlt,if_neg (by decide)]
   have eLf:(listed.setIfInBounds 7 true).getD 19 false=listed.getD 19 false:=by rw [listed_get hlt,if_neg (by decide)]
   have eLg:(listed.setIfInBounds 7 true).getD 5 false=listed.getD 5 false:=by rw [listed_get hlt,if_neg (by decide)]
   have eLh:(listed.setIfInBounds 7 true).getD 11 false=listed.getD 11 false:=by rw [listed_get hlt,if_neg (by decide)]
   have n16:listed.getD 16 false=false:=by
    cases hx:listed.getD 16 false with
    | false => rfl
    | true => have:=(hW.ce hx).1;rw [hlf] at this;cases this
   have x0:a.eval (.tmp 78)=vr:=hI.get ho hdep (i:=5) (d:=78) (by kernel_rfl) rfl
   have x1:a.eval (.tmp 79)=γ.vc:=hI.get ho hdep (i:=6) (d:=79) (by kernel_rfl) rfl
   have la:listed.getD 6 false=true:=dep_listed ho hdep (by kernel_rfl)
   obtain ⟨b,e1,e2,e3⟩:=hW.c1 la hlf;rw [e1] at x1;have hrow:=hW.r1 hlf;refine wp_app15 _ _ 28 32 (.slice none 0 0) 24 hop Try.underlying28 infoSl15 rfl B vr rs.length _ x0 hrow b 1 (.slice none 0 0) x1 (e2.cell 0) rfl hn (by decide) hBw (fun v' w' g1 g2 g3 => ⟨{ γ with v2:=v' },fun i hi => pl15V_v2 _ _ _ _ _ (hni i hi),rfl,?_⟩)
   rw [eLa,eLb,eLc,eLd,eLe,eLf,eLg,eLh];have hk:Kept (fun b => vr.ownBlock=some b) w w':=(Kept.refl _ w).grown g2 (fun k hk => .inr hk)
   have hS:∀ b,vr.ownBlock=some b → b < w1.heap.size:=fun b hb => (hor b hb).2
   have hnew:NewOr w1 vr v':=fun b hb => (g3 b hb).imp id (fun h => Nat.le_trans hW.kept.size h)
   exact { kept:=hW.kept.then hk (fun b hb => .inr (.inr (.inl hb))),obj:=by
            have:=hW.obj.keptS hk (fun e => hne.1 e)
            rw [n16,if_neg (show ¬ (false=true) by decide)] at this ⊢
            exact this
           r1:=fun hx => (by cases hx),r2:=fun _ => ⟨g1,hnew⟩,t1:=hW.kT1 hk (fun b hb e => hne.2.2 b e hb),t2:=hW.kT2 hk hS (fun b hb e => hne.2.2 b e hb),c1:=fun _ hx => (by cases hx),d1:=hW.kD hk hS,ce:=fun hx => ⟨rfl,(hW.ce hx).2⟩,cf:=hW.cf }
  ·obtain ⟨o',ho',hop,hdst⟩:=pl15_op8
   obtain rfl:=same ho' rfl;have eLa:(listed.setIfInBounds 8 true).getD 6 false=listed.getD 6 false:=by rw [listed_get hlt,if_neg (by decide)]
   have eLb:(listed.setIfInBounds 8 true).getD 7 false=listed.getD 7 false:=by rw [listed_get hlt,if_neg (by decide)]
   have eLc:(listed.setIfInBounds 8 true).getD 12 false=listed.getD 12 false:=by rw [listed_get hlt,if_neg (by decide)]
   have eLd:(listed.setIfInBounds 8 true).getD 13 false=listed.getD 13 false:=by rw [listed_get hlt,if_neg (by decide)]
   have eLe:(listed.setIfInBounds 8 true).getD 16 false=listed.getD 16 false:=by rw [listed_get hlt,if_neg (by decide)]
   have eLf:(listed.setIfInBounds 8 true).getD 19 false=listed.getD 19 false:=by rw [listed_get hlt,if_neg (by decide)]
   have eLg:(listed.setIfInBounds 8 true).getD 5 false=listed.getD 5 false:=by rw [listed_get hlt,if_neg (by decide)]
   have eLh:(listed.setIfInBounds 8 true).getD 11 false=listed.getD 11 false:=by rw [listed_get hlt,if_neg (by decide)]
   have keep:W15 B w1 r M q m d vr vt rs γ ((listed.setIfInBounds 8 true).getD 6 false) ((listed.setIfInBounds 8 true).getD 7 false) ((listed.setIfInBounds 8 true).getD 12 false) ((listed.setIfInBounds 8 true).getD 13 false) ((listed.setIfInBounds 8 true).getD 16 false) ((listed.setIfInBounds 8 true).getD 19 false) ((listed.setIfInBounds 8 true).getD 5 false) ((listed.setIfInBounds 8 true).getD 11 false) w:=by rw [eLa,eLb,eLc,eLd,eLe,eLf,eLg,eLh];exact hW
   exact wp_move _ _ (Or.inl hop) ((hI.old (t:=8) (by kernel_rfl)).trans h8) ⟨γ,fun _ _ => rfl,rfl,keep⟩
  ·obtain ⟨o',ho',hop,hdst⟩:=pl15_op9
   obtain rfl:=same ho' rfl;have eLa:(listed.setIfInBounds 9 true).getD 6 false=listed.getD 6 false:=by rw [listed_get hlt,if_neg (by decide)]
   have eLb:(listed.setIfInBounds 9 true).getD 7 false=listed.getD 7 false:=by rw [listed_get hlt,if_neg (by decide)]
   have eLc:(listed.setIfInBounds 9 true).getD 12 false=listed.getD 12 false:=by rw [listed_get hlt,if_neg (by decide)]
   have eLd:(listed.setIfInBounds 9 true).getD 13 false=listed.getD 13 false:=by rw [listed_get hlt,if_neg (by decide)]
   have eLe:(listed.setIfInBounds 9 true).getD 16 false=listed.getD 16 false:=by rw [listed_get hlt,if_neg (by decide)]
   have eLf:(listed.setIfInBounds 9 true).getD 19 false=listed.getD 19 false:=by rw [listed_get hlt,if_neg (by decide)]
   have eLg:(listed.setIfInBounds 9 true).getD 5 false=listed.getD 5 false:=by rw [listed_get hlt,if_neg (by decide)]
   have eLh:(listed.setIfInBounds 9 true).getD 11 false=listed.getD 11 false:=by rw [listed_get hlt,if_neg (by decide)]
   have keep:W15 B w1 r M q m d vr vt rs γ ((listed.setIfInBounds 9 true).getD 6 false) ((listed.setIfInBounds 9 true).getD 7 false) ((listed.setIfInBounds 9 true).getD 12 false) ((listed.setIfInBounds 9 true).getD 13 false) ((listed.setIfInBounds 9 true).getD 16 false) ((listed.setIfInBounds 9 true).getD 19 false) ((listed.setIfInBounds 9 true).getD 5 false) ((listed.setIfInBounds 9 true).getD 11 false) w:=by rw [eLa,eLb,eLc,eLd,eLe,eLf,eLg,eLh];exact hW
   have e:a.eval (.tmp 81)=ptrS r:=hI.get ho hdep (i:=8) (d:=81) (by kernel_rfl) rfl
   refine wp_run _ ?_ ⟨γ,fun _ _ => rfl,rfl,keep⟩
   generalize a.eval=ev at e ⊢;simp [go_sem,execOp,hop,e,pl15V]
  ·obtain ⟨o',ho',hop,hdst⟩:=pl15_op10
   obtain rfl:=same ho' rfl;have eLa:(listed.setIfInBounds 10 true).getD 6 false=listed.getD 6 false:=by rw [listed_get hlt,if_neg (by decide)]
   have eLb:(listed.setIfInBounds 10 true).getD 7 false=listed.getD 7 false:=by rw [listed_get hlt,if_neg (by decide)]
   have eLc:(listed.setIfInBounds 10 true).getD 12 false=listed.getD 12 false:=by rw [listed_get hlt,if_neg (by decide)]
   have eLd:(listed.setIfInBounds 10 true).getD 13 false=listed.getD 13 false:=by rw [listed_get hlt,if_neg (by decide)]
   have eLe:(listed.setIfInBounds 10 true).getD 16 false=listed.getD 16 false:=by rw [listed_get hlt,if_neg (by decide)]
   have eLf:(listed.setIfInBounds 10 true).getD 19 false=listed.getD 19 false:=by rw [listed_get hlt,if_neg (by decide)]
   have eLg:(listed.setIfInBounds 10 true).getD 5 false=listed.getD 5 false:=by rw [listed_get hlt,if_neg (by decide)]
   have eLh:(listed.setIfInBounds 10 true).getD 11 false=listed.getD 11 false:=by rw [listed_get hlt,if_neg (by decide)]
   have keep:W15 B w1 r M q m d vr vt rs γ ((listed.setIfInBounds 10 true).getD 6 false) ((listed.setIfInBounds 10 true).getD 7 false) ((listed.setIfInBounds 10 true).getD 12 false) ((listed.setIfInBounds 10 true).getD 13 false) ((listed.setIfInBounds 10 true).getD 16 false) ((listed.setIfInBounds 10 true).getD 19 false) ((listed.setIfInBounds 10 true).getD 5 false) ((listed.setIfInBounds 10 true).getD 11 false) w:=by rw [eLa,eLb,eLc,eLd,eLe,eLf,eLg,eLh];exact hW
   have e:a.eval (.tmp 82)=ptrS r:=hI.get ho hdep (i:=9) (d:=82) (by kernel_rfl) rfl
   refine wp_run _ ?_ ⟨γ,fun _ _ => rfl,rfl,keep⟩
   generalize a.eval=ev at e ⊢;simp [go_sem,execOp,hop,e,pl15V]
  ·obtain ⟨o',ho',hop,hdst⟩:=pl15_op11
   obtain rfl:=same ho' rfl;have eLa:(listed.setIfInBounds 11 true).getD 6 false=listed.getD 6 false:=by rw [listed_get hlt,if_neg (by decide)]
   have eLb:(listed.setIfInBounds 11 true).getD 7 false=listed.getD 7 false:=by rw [listed_get hlt,if_neg (by decide)]
   have eLc:(listed.setIfInBounds 11 true).getD 12 false=listed.getD 12 false:=by rw [listed_get hlt,if_neg (by decide)]
   have eLd:(listed.setIfInBounds 11 true).getD 13 false=listed.getD 13 false:=by rw [listed_get hlt,if_neg (by decide)]
   have eLe:(listed.setIfInBounds 11 true).getD 16 false=listed.getD 16 false:=by rw [listed_get hlt,if_neg (by decide)]
   have eLf:(listed.setIfInBounds 11 true).getD 19 false=listed.getD 19 false:=by rw [listed_get hlt,if_neg (by decide)]
   have eLg:(listed.setIfInBounds 11 true).getD 5 false=listed.getD 5 false:=by rw [listed_get hlt,if_neg (by decide)]
   have eLh:(listed.setIfInBounds 11 true).getD 11 false=true:=by rw [listed_get hlt,if_pos rfl]
   have n19:listed.getD 19 false=false:=by
    cases hx:listed.getD 19 false with
    | false => rfl
    | true => have:=(hW.cf hx).2;rw [hlf] at this;cases this
   have e:a.eval (.tmp 83)=.pointer (some ⟨r,3,none⟩):=hI.get ho hdep (i:=10) (d:=83) (by kernel_rfl) rfl
   have hob:=hW.obj;rw [n19,if_neg (show ¬ (false=true) by decide),hvt] at hob
   have c0:=hob.cell 3;simp only [List.getElem?_toArray,List.getElem?_cons_zero,List.getElem?_cons_succ] at c0;refine wp_loadS _ _ hop r 3 e _ (ld_boolS w r 3 pt rs.length ct c0) ⟨γ,fun _ _ => rfl,by rw [← hvt];rfl,?_⟩
   rw [eLa,eLb,eLc,eLd,eLe,eLf,eLg,eLh];exact { kept:=hW.kept,obj:=hW.obj,r1:=hW.r1,r2:=hW.r2,t1:=hW.t1,t2:=hW.t2,c1:=hW.c1,d1:=hW.d1,ce:=hW.ce,cf:=fun hx => ⟨(hW.cf hx).1,rfl⟩ }
  ·obtain ⟨o',ho',hop,hdst⟩:=pl15_op12
   obtain rfl:=same ho' rfl;have eLa:(listed.setIfInBounds 12 true).getD 6 false=listed.getD 6 false:=by rw [listed_get hlt,if_neg (by decide)]
   have eLb:(listed.setIfInBounds 12 true).getD 7 false=listed.getD 7 false:=by rw [listed_get hlt,if_neg (by decide)]
   have eLc:(listed.setIfInBounds 12 true).getD 12 false=true:=by rw [listed_get hlt,if_pos rfl]
   have eLd:(listed.setIfInBounds 12 true).getD 13 false=listed.getD 13 false:=by rw [listed_get hlt,if_neg (by decide)]
   have eLe:(listed.setIfInBounds 12 true).getD 16 false=listed.getD 16 false:=by rw [listed_get hlt,if_neg (by decide)]
   have eLf:(listed.setIfInBounds 12 true).getD 19 false=listed.getD 19 false:=by rw [listed_get hlt,if_neg (by decide)]
   have eLg:(listed.setIfInBounds 12 true).getD 5 false=listed.getD 5 false:=by rw [listed_get hlt,if_neg (by decide)]
   have eLh:(listed.setIfInBounds 12 true).getD 11 false=listed.getD 11 false:=by rw [listed_get hlt,if_neg (by decide)]
   have hq:=bs_boolS w
   have hr:(execOp a.eval o').run Try.prog w=.ok (.value (.slice (some ⟨w.heap.size,0,none⟩) 1 1)) (w.alloc (.cells #[.bool true] 4)):=by
    have ec:a.eval (.const (.bool true))=.bool true:=rfl;simp [execOp,hop,hq,ec,Result.andThen]
   have hk:Kept noneB w (w.alloc (.cells #[.bool true] 4)):=(Kept.refl noneB w).alloc _;have hS:∀ b,noneB b → b < w1.heap.size:=fun _ h => h.elim
   unfold Oper.wp;rw [hr,Oper.upon_value];refine ⟨{ γ with vd:=.slice (some ⟨w.heap.size,0,none⟩) 1 1 },fun i hi => pl15V_vd _ _ _ _ _ (hni i hi),rfl,?_⟩
   rw [eLa,eLb,eLc,eLd,eLe,eLf,eLg,eLh];exact { kept:=hW.kept.then hk (fun _ h => h.elim),obj:=hW.obj.keptS hk (fun h => h),r1:=hW.kR1 hk (fun _ _ h => h),r2:=hW.kR2 hk hS (fun _ _ h => h),t1:=hW.kT1 hk (fun _ _ h => h),t2:=hW.kT2 hk hS (fun _ _ h => h),d1:=fun _ _ => ⟨w.heap.size,rfl,Blk.new w _ _,hW.kept.size⟩,c1:=hW.kC hk hS,ce:=hW.ce,cf:=hW.cf }
  ·obtain ⟨o',ho',hop,hdst⟩:=pl15_op13
   obtain rfl:=same ho' rfl;have eLa:(listed.setIfInBounds 13 true).getD 6 false=listed.getD 6 false:=by rw [listed_get hlt,if_neg (by decide)]
   have eLb:(listed.setIfInBounds 13 true).getD 7 false=listed.getD 7 false:=by rw [listed_get hlt,if_neg (by decide)]
   have eLc:(listed.setIfInBounds 13 true).getD 12 false=listed.getD 12 false:=by rw [listed_get hlt,if_neg (by decide)]
   have eLd:(listed.setIfInBounds 13 true).getD 13 false=true:=by rw [listed_get hlt,if_pos rfl]
   have eLe:(listed.setIfInBounds 13 true).getD 16 false=listed.getD 16 false:=by rw [listed_get hlt,if_neg (by decide)]
   have eLf:(listed.setIfInBounds 13 true).getD 19 false=listed.getD 19 false:=by rw [listed_get hlt,if_neg (by decide)]
   have eLg:(listed.setIfInBounds 13 true).getD 5 false=listed.getD 5 false:=by rw [listed_get hlt,if_neg (by decide)]
   have eLh:(listed.setIfInBounds 13 true).getD 11 false=listed.getD 11 false:=by rw [listed_get hlt,if_neg (by decide)]
   have n19:listed.getD 19 false=false:=by
    cases hx:listed.getD 19 false with
    | false => rfl
    | true => have:=(hW.cf hx).1;rw [hlf] at this;cases this
   have x0:a.eval (.tmp 84)=vt:=hI.get ho hdep (i:=11) (d:=84) (by kernel_rfl) rfl
   have x1:a.eval (.tmp 85)=γ.vd:=hI.get ho hdep (i:=12) (d:=85) (by kernel_rfl) rfl
   have la:listed.getD 12 false=true:=dep_listed ho hdep (by kernel_rfl)
   obtain ⟨b,e1,e2,e3⟩:=hW.d1 la hlf;rw [e1] at x1;have hrow:=hW.t1 hlf;refine wp_app15 _ _ 29 4 (.bool false) 1 hop Try.underlying29 infoBo15 rfl B vt rs.length _ x0 hrow b 1 (.bool true) x1 (e2.cell 0) rfl hn (by decide) hBw (fun v' w' g1 g2 g3 => ⟨{ γ with v3:=v' },fun i hi => pl15V_v3 _ _ _ _ _ (hni i hi),rfl,?_⟩)
   rw [eLa,eLb,eLc,eLd,eLe,eLf,eLg,eLh];have hk:Kept (fun b => vt.ownBlock=some b) w w':=(Kept.refl _ w).grown g2 (fun k hk => .inr hk)
   have hS:∀ b,vt.ownBlock=some b → b < w1.heap.size:=fun b hb => (hot b hb).2
   have hnew:NewOr w1 vt v':=fun b hb => (g3 b hb).imp id (fun h => Nat.le_trans hW.kept.size h)
   exact { kept:=hW.kept.then hk (fun b hb => .inr (.inr (.inr hb))),obj:=by
            have:=hW.obj.keptS hk (fun e => hne.2.1 e)
            rw [n19,if_neg (show ¬ (false=true) by decide)] at this ⊢
            exact this
           r1:=hW.kR1 hk (fun b hb e => hne.2.2 b hb e),r2:=hW.kR2 hk hS (fun b hb e => hne.2.2 b hb e),t1:=fun hx => (by cases hx),t2:=fun _ => ⟨g1,hnew⟩,c1:=hW.kC hk hS,d1:=fun _ hx => (by cases hx),ce:=hW.ce,cf:=fun hx => ⟨rfl,(hW.cf hx).2⟩ }
  ·obtain ⟨o',ho',hop,hdst⟩:=pl15_op14
   obtain rfl:=same ho' rfl;have eLa:(listed.setIfInBounds 14 true).getD 6 false=listed.getD 6 false:=by rw [listed_get hlt,if_neg (by decide)]
   have eLb:(listed.setIfInBounds 14 true).getD 7 false=listed.getD 7 false:=by rw [listed_get hlt,if_neg (by decide)]
   have eLc:(listed.setIfInBounds 14 true).getD 12 false=listed.getD 12 false:=by rw [listed_get hlt,if_neg (by decide)]
   have eLd:(listed.setIfInBounds 14 true).getD 13 false=listed.getD 13 false:=by rw [listed_get hlt,if_neg (by decide)]
   have eLe:(listed.setIfInBounds 14 true).getD 16 false=listed.getD 16 false:=by rw [listed_get hlt,if_neg (by decide)]
   have eLf:(listed.setIfInBounds 14 true).getD 19 false=listed.getD 19 false:=by rw [listed_get hlt,if_neg (by decide)]
   have eLg:(listed.setIfInBounds 14 true).getD 5 false=listed.getD 5 false:=by rw [listed_get hlt,if_neg (by decide)]
   have eLh:(listed.setIfInBounds 14 true).getD 11 false=listed.getD 11 false:=by rw [listed_get hlt,if_neg (by decide)]
   have keep:W15 B w1 r M q m d vr vt rs γ ((listed.setIfInBounds 14 true).getD 6 false) ((listed.setIfInBounds 14 true).getD 7 false) ((listed.setIfInBounds 14 true).getD 12 false) ((listed.setIfInBounds 14 true).getD 13 false) ((listed.setIfInBounds 14 true).getD 16 false) ((listed.setIfInBounds 14 true).getD 19 false) ((listed.setIfInBounds 14 true).getD 5 false) ((listed.setIfInBounds 14 true).getD 11 false) w:=by rw [eLa,eLb,eLc,eLd,eLe,eLf,eLg,eLh];exact hW
   have e:a.eval (.tmp 73)=ptrS r:=hI.get ho hdep (i:=0) (d:=73) (by kernel_rfl) rfl
   refine wp_run _ ?_ ⟨γ,fun _ _ => rfl,rfl,keep⟩
   generalize a.eval=ev at e ⊢;simp [go_sem,execOp,hop,e,pl15V]
  ·obtain ⟨o',ho',hop,hdst⟩:=pl15_op15
   obtain rfl:=same ho' rfl;have eLa:(listed.setIfInBounds 15 true).getD 6 false=listed.getD 6 false:=by rw [listed_get hlt,if_neg (by decide)]
   have eLb:(listed.setIfInBounds 15 true).getD 7 false=listed.getD 7 false:=by rw [listed_get hlt,if_neg (by decide)]
   have eLc:(listed.setIfInBounds 15 true).getD 12 false=listed.getD 12 false:=by rw [listed_get hlt,if_neg (by decide)]
   have eLd:(listed.setIfInBounds 15 true).getD 13 false=listed.getD 13 false:=by rw [listed_get hlt,if_neg (by decide)]
   have eLe:(listed.setIfInBounds 15 true).getD 16 false=listed.getD 16 false:=by rw [listed_get hlt,if_neg (by decide)]
   have eLf:(listed.setIfInBounds 15 true).getD 19 false=listed.getD 19 false:=by rw [listed_get hlt,if_neg (by decide)]
   have eLg:(listed.setIfInBounds 15 true).getD 5 false=listed.getD 5 false:=by rw [listed_get hlt,if_neg (by decide)]
   have eLh:(listed.setIfInBounds 15 true).getD 11 false=listed.getD 11 false:=by rw [listed_get hlt,if_neg (by decide)]
   have keep:W15 B w1 r M q m d vr vt rs γ ((listed.setIfInBounds 15 true).getD 6 false) ((listed.setIfInBounds 15 true).getD 7 false) ((listed.setIfInBounds 15 true).getD 12 false) ((listed.setIfInBounds 15 true).getD 13 false) ((listed.setIfInBounds 15 true).getD 16 false) ((listed.setIfInBounds 15 true).getD 19 false) ((listed.setIfInBounds 15 true).getD 5 false) ((listed.setIfInBounds 15 true).getD 11 false) w:=by rw [eLa,eLb,eLc,eLd,eLe,eLf,eLg,eLh];exact hW
   have e:a.eval (.tmp 87)=ptrS r:=hI.get ho hdep (i:=14) (d:=87) (by kernel_rfl) rfl
   refine wp_run _ ?_ ⟨γ,fun _ _ => rfl,rfl,keep⟩
   generalize a.eval=ev at e ⊢;simp [go_sem,execOp,hop,e,pl15V]
  ·obtain ⟨o',ho',hop,hdst⟩:=pl15_op16
   obtain rfl:=same ho' rfl;have eLa:(listed.setIfInBounds 16 true).getD 6 false=listed.getD 6 false:=by rw [listed_get hlt,if_neg (by decide)]
   have eLb:(listed.setIfInBounds 16 true).getD 7 false=listed.getD 7 false:=by rw [listed_get hlt,if_neg (by decide)]
   have eLc:(listed.setIfInBounds 16 true).getD 12 false=listed.getD 12 false:=by rw [listed_get hlt,if_neg (by decide)]
   have eLd:(listed.setIfInBounds 16 true).getD 13 false=listed.getD 13 false:=by rw [listed_get hlt,if_neg (by decide)]
   have eLe:(listed.setIfInBounds 16 true).getD 16 false=true:=by rw [listed_get hlt,if_pos rfl]
   have eLf:(listed.setIfInBounds 16 true).getD 19 false=listed.getD 19 false:=by rw [listed_get hlt,if_neg (by decide)]
   have eLg:(listed.setIfInBounds 16 true).getD 5 false=listed.getD 5 false:=by rw [listed_get hlt,if_neg (by decide)]
   have eLh:(listed.setIfInBounds 16 true).getD 11 false=listed.getD 11 false:=by rw [listed_get hlt,if_neg (by decide)]
   have x0:a.eval (.tmp 88)=.pointer (some ⟨r,2,none⟩):=hI.get ho hdep (i:=15) (d:=88) (by kernel_rfl) rfl
   have x1:a.eval (.tmp 80)=γ.v2:=hI.get ho hdep (i:=7) (d:=80) (by kernel_rfl) rfl
   have lb:listed.getD 7 false=true:=dep_listed ho hdep (by kernel_rfl)
   have lg:listed.getD 5 false=true:=dep_listed ho hdep (by kernel_rfl)
   obtain ⟨p3,c3,e3,_,_,_⟩:=own_form (hW.r2 lb).1;rw [e3] at x1;have hob:=hW.obj;rw [hlf,if_neg (show ¬ (false=true) by decide)] at hob
   have hset:=hob.set 2 (.slice p3 (rs.length+1) c3) (by simp)
   have hk:Kept (oneB r) w (w.setCell ⟨r,2,none⟩ (.slice p3 (rs.length+1) c3)):=(Kept.refl (oneB r) w).setCell (a:=⟨r,2,none⟩) (.inr rfl) _;have hS:∀ b,oneB r b → b < w1.heap.size:=fun b hb => by rw [show b=r from hb];exact hrl
   refine wp_storeSl _ (.inl rfl) _ _ hop r 2 x0 p3 (rs.length+1) c3 x1 _ (hob.cell 2) (hob.frozen 2) ⟨γ,fun _ _ => rfl,rfl,?_⟩
   rw [eLa,eLb,eLc,eLd,eLe,eLf,eLg,eLh]
   exact { kept:=hW.kept.then hk (fun b hb => .inr (.inl hb)),obj:=by
            rw [if_pos rfl,e3];exact hset
           r1:=hW.kR1 hk (fun b hb e => hne.1 (by rw [← show b=r from e];exact hb)),r2:=hW.kR2 hk hS (fun b hb e => hne.1 (by rw [← show b=r from e];exact hb)),t1:=hW.kT1 hk (fun b hb e => hne.2.1 (by rw [← show b=r from e];exact hb)),t2:=hW.kT2 hk hS (fun b hb e => hne.2.1 (by rw [← show b=r from e];exact hb)),c1:=hW.kC hk hS,d1:=hW.kD hk hS,ce:=fun _ => ⟨lb,lg⟩,cf:=hW.cf }
  ·obtain ⟨o',ho',hop,hdst⟩:=pl15_op17
   obtain rfl:=same ho' rfl;have eLa:(listed.setIfInBounds 17 true).getD 6 false=listed.getD 6 false:=by rw [listed_get hlt,if_neg (by decide)]
   have eLb:(listed.setIfInBounds 17 true).getD 7 false=listed.getD 7 false:=by rw [listed_get hlt,if_neg (by decide)]
   have eLc:(listed.setIfInBounds 17 true).getD 12 false=listed.getD 12 false:=by rw [listed_get hlt,if_neg (by decide)]
   have eLd:(listed.setIfInBounds 17 true).getD 13 false=listed.getD 13 false:=by rw [listed_get hlt,if_neg (by decide)]
   have eLe:(listed.setIfInBounds 17 true).getD 16 false=listed.getD 16 false:=by rw [listed_get hlt,if_neg (by decide)]
   have eLf:(listed.setIfInBounds 17 true).getD 19 false=listed.getD 19 false:=by rw [listed_get hlt,if_neg (by decide)]
   have eLg:(listed.setIfInBounds 17 true).getD 5 false=listed.getD 5 false:=by rw [listed_get hlt,if_neg (by decide)]
   have eLh:(listed.setIfInBounds 17 true).getD 11 false=listed.getD 11 false:=by rw [listed_get hlt,if_neg (by decide)]
   have keep:W15 B w1 r M q m d vr vt rs γ ((listed.setIfInBounds 17 true).getD 6 false) ((listed.setIfInBounds 17 true).getD 7 false) ((listed.setIfInBounds 17 true).getD 12 false) ((listed.setIfInBounds 17 true).getD 13 false) ((listed.setIfInBounds 17 true).getD 16 false) ((listed.setIfInBounds 17 true).getD 19 false) ((listed.setIfInBounds 17 true).getD 5 false) ((listed.setIfInBounds 17 true).getD 11 false) w:=by rw [eLa,eLb,eLc,eLd,eLe,eLf,eLg,eLh];exact hW
   have e:a.eval (.tmp 74)=ptrS r:=hI.get ho hdep (i:=1) (d:=74) (by kernel_rfl) rfl
   refine wp_run _ ?_ ⟨γ,fun _ _ => rfl,rfl,keep⟩
   generalize a.eval=ev at e ⊢;simp [go_sem,execOp,hop,e,pl15V]
  ·obtain ⟨o',ho',hop,hdst⟩:=pl15_op18
   obtain rfl:=same ho' rfl;have eLa:(listed.setIfInBounds 18 true).getD 6 false=listed.getD 6 false:=by rw [listed_get hlt,if_neg (by decide)]
   have eLb:(listed.setIfInBounds 18 true).getD 7 false=listed.getD 7 false:=by rw [listed_get hlt,if_neg (by decide)]
   have eLc:(listed.setIfInBounds 18 true).getD 12 false=listed.getD 12 false:=by rw [listed_get hlt,if_neg (by decide)]
   have eLd:(listed.setIfInBounds 18 true).getD 13 false=listed.getD 13 false:=by rw [listed_get hlt,if_neg (by decide)]
   have eLe:(listed.setIfInBounds 18 true).getD 16 false=listed.getD 16 false:=by rw [listed_get hlt,if_neg (by decide)]
   have eLf:(listed.setIfInBounds 18 true).getD 19 false=listed.getD 19 false:=by rw [listed_get hlt,if_neg (by decide)]
   have eLg:(listed.setIfInBounds 18 true).getD 5 false=listed.getD 5 false:=by rw [listed_get hlt,if_neg (by decide)]
   have eLh:(listed.setIfInBounds 18 true).getD 11 false=listed.getD 11 false:=by rw [listed_get hlt,if_neg (by decide)]
   have keep:W15 B w1 r M q m d vr vt rs γ ((listed.setIfInBounds 18 true).getD 6 false) ((listed.setIfInBounds 18 true).getD 7 false) ((listed.setIfInBounds 18 true).getD 12 false) ((listed.setIfInBounds 18 true).getD 13 false) ((listed.setIfInBounds 18 true).getD 16 false) ((listed.setIfInBounds 18 true).getD 19 false) ((listed.setIfInBounds 18 true).getD 5 false) ((listed.setIfInBounds 18 true).getD 11 false) w:=by rw [eLa,eLb,eLc,eLd,eLe,eLf,eLg,eLh];exact hW
   have e:a.eval (.tmp 89)=ptrS r:=hI.get ho hdep (i:=17) (d:=89) (by kernel_rfl) rfl
   refine wp_run _ ?_ ⟨γ,fun _ _ => rfl,rfl,keep⟩
   generalize a.eval=ev at e ⊢;simp [go_sem,execOp,hop,e,pl15V]
  ·obtain ⟨o',ho',hop,hdst⟩:=pl15_op19
   obtain rfl:=same ho' rfl;have eLa:(listed.setIfInBounds 19 true).getD 6 false=listed.getD 6 false:=by rw [listed_get hlt,if_neg (by decide)]
   have eLb:(listed.setIfInBounds 19 true).getD 7 false=listed.getD 7 false:=by rw [listed_get hlt,if_neg (by decide)]
   have eLc:(listed.setIfInBounds 19 true).getD 12 false=listed.getD 12 false:=by rw [listed_get hlt,if_neg (by decide)]
   have eLd:(listed.setIfInBounds 19 true).getD 13 false=listed.getD 13 false:=by rw [listed_get hlt,if_neg (by decide)]
   have eLe:(listed.setIfInBounds 19 true).getD 16 false=listed.getD 16 false:=by rw [listed_get hlt,if_neg (by decide)]
   have eLf:(listed.setIfInBounds 19 true).getD 19 false=true:=by rw [listed_get hlt,if_pos rfl]
   have eLg:(listed.setIfInBounds 19 true).getD 5 false=listed.getD 5 false:=by rw [listed_get hlt,if_neg (by decide)]
   have eLh:(listed.setIfInBounds 19 true).getD 11 false=listed.getD 11 false:=by rw [listed_get hlt,if_neg (by decide)]
   have x0:a.eval (.tmp 90)=.pointer (some ⟨r,3,none⟩):=hI.get ho hdep (i:=18) (d:=90) (by kernel_rfl) rfl
   have x1:a.eval (.tmp 86)=γ.v3:=hI.get ho hdep (i:=13) (d:=86) (by kernel_rfl) rfl
   have lb:listed.getD 13 false=true:=dep_listed ho hdep (by kernel_rfl)
   have lg:listed.getD 11 false=true:=dep_listed ho hdep (by kernel_rfl)
   obtain ⟨p3,c3,e3,_,_,_⟩:=own_form (hW.t2 lb).1;rw [e3] at x1;have hob:=hW.obj;rw [hlf,if_neg (show ¬ (false=true) by decide)] at hob
   have hset:=hob.set 3 (.slice p3 (rs.length+1) c3) (by simp)
   have hk:Kept (oneB r) w (w.setCell ⟨r,3,none⟩ (.slice p3 (rs.length+1) c3)):=(Kept.refl (oneB r) w).setCell (a:=⟨r,3,none⟩) (.inr rfl) _;have hS:∀ b,oneB r b → b < w1.heap.size:=fun b hb => by rw [show b=r from hb];exact hrl
   refine wp_storeSl _ (.inr rfl) _ _ hop r 3 x0 p3 (rs.length+1) c3 x1 _ (hob.cell 3) (hob.frozen 3) ⟨γ,fun _ _ => rfl,rfl,?_⟩
   rw [eLa,eLb,eLc,eLd,eLe,eLf,eLg,eLh]
   exact { kept:=hW.kept.then hk (fun b hb => .inr (.inl hb)),obj:=by
            rw [if_pos rfl,e3];exact hset
           r1:=hW.kR1 hk (fun b hb e => hne.1 (by rw [← show b=r from e];exact hb)),r2:=hW.kR2 hk hS (fun b hb e => hne.1 (by rw [← show b=r from e];exact hb)),t1:=hW.kT1 hk (fun b hb e => hne.2.1 (by rw [← show b=r from e];exact hb)),t2:=hW.kT2 hk hS (fun b hb e => hne.2.1 (by rw [← show b=r from e];exact hb)),c1:=hW.kC hk hS,d1:=hW.kD hk hS,ce:=hW.ce,cf:=fun _ => ⟨lb,lg⟩ }
 ·intro γ listed a w hI hall
  have all:∀ j,j < 20 → listed.getD j false=true:=fun j hj => hall j (by rw [pl15_size];exact hj)
  have hW:=hI.wd;have hob:=hW.obj;rw [all 16 (by omega),all 19 (by omega),if_pos rfl,if_pos rfl] at hob
  have g1:=hW.r2 (all 7 (by omega))
  have g2:=hW.t2 (all 13 (by omega))
  rw [done_putAllG 240 pl15_apart hsz hI hall,pl15_size];simp only [putAll,pl15_dst0,pl15_dst1,pl15_dst2,pl15_dst3,pl15_dst4,pl15_dst5,pl15_dst6,pl15_dst7,pl15_dst8,pl15_dst9,pl15_dst10,pl15_dst11,pl15_dst12,pl15_dst13,pl15_dst14,pl15_dst15,pl15_dst16,pl15_dst17,pl15_dst18,pl15_dst19,put_none,pl15V];refine hQ γ w (h.grow_ hW.kept hob g1.1 g2.1) hW.kept (fun b hb => ?_)
  rcases hb with hb | hb | hb
  ·exact .inl (.inl hb)
  ·exact (g1.2 b hb).imp (fun h => .inr (.inl h)) id
  ·exact (g2.2 b hb).imp (fun h => .inr (.inr h)) id
 ·have hk:Kept noneB w1 w1.drew:=(Kept.refl noneB w1).drew
  exact { kept:=(Kept.refl _ w1).drew,obj:=by rw [no,no,if_neg (show ¬ (false=true) by decide),if_neg (show ¬ (false=true) by decide)];exact h.obj.keptS hk (fun h => h),r1:=fun _ => ownsRow_kept h.runs hk (fun _ _ h => h),r2:=fun hx => (by rw [no] at hx;cases hx),t1:=fun _ => ownsRow_kept h.there hk (fun _ _ h => h),t2:=fun hx => (by rw [no] at hx;cases hx),c1:=fun hx => (by rw [no] at hx;cases hx),d1:=fun hx => (by rw [no] at hx;cases hx),ce:=fun hx => (by rw [no] at hx;cases hx),cf:=fun hx => (by rw [no] at hx;cases hx) }
end Go.Proofs.Ytfpoipamioaklaa.Sto
end
section
namespace Go.Proofs.Ytfpoipamioaklaa.Walk
open Go.ChangeShapes Go.WideShapes Go.ChangeAt Go.RowKit Base Byt Txt Bk Block Sto Go.Lib
set_option linter.unusedVariables false
set_option maxRecDepth 100000
def PlayR (At:World → Nat → SM → (Nat → Prop) → Prop) (w wr:World) (g r:Nat) (R:Nat) (zs:List Int) (q:Option Addr) (m d i:Nat):Prop:=
 ∃ own M vr vt rs,PlayQ At w wr g own r M M q m d vr vt rs∧SmallN i M∧M.fails=zs∧M.room=R
def PlayZ (At:World → Nat → SM → (Nat → Prop) → Prop) (w wr:World) (g r:Nat) (R:Nat) (zs:List Int) (q:Option Addr) (m d i yb:Nat) (cs:Array Value):Prop:=
 ∃ own M vr vt rs,PlayY At w wr g own r M M q m d vr vt rs yb cs∧SmallN i M∧M.fails=zs∧M.room=R
attribute [local irreducible] wpQuiet
set_option maxHeartbeats 16000000 in
theorem storePlaysC {At:World → Nat → SM → (Nat → Prop) → Prop} (H:StoC At) (room:Int) (q:Option Addr) (m d:Nat) (zs0:List Int) (p:Option Addr) (n c:Nat) (xs:List OP) (w:World) (wf:(Lit.int .i64 room).wf=true) (w1:IsRow .i64 w q m d zs0) (b1:d * 8≤140737488351232)
 (ma:OpsAt w p n xs) (lc:n≤c) (cm:c≤maxLen) (by0:c * 56≤140737488351232) (rm:∀ x ∈ xs,WfO x.m∧RoomO x) :
 Calls Try.prog 3 #[.int .i64 room,.slice q m d,.slice p n c] w fun e w' => e=.returned (.bool true)∧Below w.heap.size w w':=by
 obtain ⟨hi,hil,hic,_⟩:=iat_of_row w1;obtain ⟨zs,hzs⟩:∃ zs,zs0.take m=zs:=⟨_,rfl⟩;rw [hzs] at hi hil;have HI:=Lib.hid hi;have HIL:=Lib.hid hil;have HC:=Lib.hid H;have HMA:=Lib.hid ma;have HRM:=Lib.hid rm
 have hrw:-9223372036854775808≤room∧room≤9223372036854775807:=by
  simp only [Lit.wf,Bool.and_eq_true,decide_eq_true_eq] at wf;have h1:IntKind.i64.min = -9223372036854775808:=rfl;have h2:IntKind.i64.max=9223372036854775807:=rfl;omega
 have HRW:=Lib.hid hrw
 have HQL:Hid (0 < m → ∀ a,q=some a → a.block < w.heap.size):=Lib.hid (fun h0 a ha => by
  obtain ⟨b,o,he,hb,_⟩:=hi h0
  rw [he] at ha;cases ha;exact hb)
 clear hi hil hzs w1 H ma rm wf hrw cm by0;have HAN:=Lib.hid (ans14_any HC.out w)
 by_cases hm:m≤100
 ·by_cases hn:n≤100
  ·have hm1:¬ ((100:Int) < (m:Int)):=by omega
   have hn1:¬ ((100:Int) < (n:Int)):=by omega
   clear HAN;obtain ⟨i1,hi1,hy0,hy1,hy2⟩:=info_parts infoI64;have HI1:=Lib.hid hi1;have HY0:=Lib.hid hy0;have HY1:=Lib.hid hy1;have HY2:=Lib.hid hy2;clear hi1 hy0 hy1 hy2;obtain ⟨R,hR⟩:∃ R:Nat,room.toNat=R:=⟨_,rfl⟩;have HR:=Lib.hid hR;clear hR
   go_enter Try.func3,Try.ntmps3
   go_wp2_with (at_builtin;refine append_ints rfl _ _ 22 rfl w.heap.size 3 i1 Try.underlying22 HI1.out HY0.out HY1.out HY2.out _ 0 [] rfl (World.ownsRow_made w #[] 0 (Nat.le_refl _) (by decide) rfl) q m d zs rfl ?e1 HIL.out ?e2 (by simp) ?_)
   case e1 => exact HI.out.kept ((Byt.Kept.refl noneB w).alloc _) (fun _ _ _ => id)
   case e2 => omega
   intro v2 w2 hown2 hgrow2;have ho2:w2.ownsRow w.heap.size 3 1 v2 m (zs.map (Value.int .i64)):=by simpa using hown2
   have hk2:Byt.Kept noneB w w2:=((Byt.Kept.refl noneB w).alloc _).grown hgrow2 (by intro k hk;simp [Value.ownBlock] at hk;omega)
   have HK2:=Lib.hid hk2;obtain ⟨p2,c2,rfl,hc2,hx2,hi2,_,_⟩:=iat_of_own ho2;have HNEW:=Lib.hid (HC.out.new w2 room p2 m c2 zs hi2 HIL.out hc2 hx2 (by omega) HRW.out.1 HRW.out.2)
   clear hown2 hgrow2 ho2 hk2 hi2 hc2 hx2
   go_wp2_with fail
   refine HNEW.out.mono ?_
   rintro e w3 ⟨g,own,rfl,ha,ho,hb⟩;have hq4:=PlayQ.start (d:=d) HC.out HR.out HK2.out ha ho hb HI.out HIL.out HQL.out;have hmx:(if room < 0 then (0:Int) else room)=(R:Int):=by have:=HR.out;split<;>omega
   have HQ4:=Lib.hid hq4;clear ha ho hb hq4 HNEW
   go_wp2_with fail
   clear hmx;obtain ⟨r,hr⟩:∃ r,w3.heap.size=r:=⟨_,rfl⟩;rw [hr] at HQ4 ⊢;obtain ⟨W4,hW4⟩:∃ W4,w3.alloc (.cells #[.int .i64 (R:Int),.slice q m d,.slice none 0 0,.slice none 0 0,.int .i64 0,.int .i64 0] 31)=W4:=⟨_,rfl⟩;rw [hW4] at HQ4 ⊢;have HP4:Hid (PlayR At w W4 g r R zs q m d 0):=Lib.hid ⟨own,newS room zs,_,_,_,HQ4.out,SmallN.new room zs,rfl,HR.out⟩;clear hr hW4 HQ4 HK2
   go_loopw [9] (fun x wr => ∃ i:Nat,i≤n∧x=.int .i64 (i:Int)∧Hid (PlayR At w wr g r R zs q m d i)) (fun x _ => n - (RowKit.intOf x).toNat)
   case atStart => exact ⟨0,Nat.zero_le _,rfl,HP4⟩
   case round =>
    obtain ⟨i,hi,rfl,hW⟩:=hrel;clear HP4;obtain ⟨own,M,vr,vt,rs,hQ,hN,hMf,hMr⟩:=hW.out;have HQ:=Lib.hid hQ;have HN:=Lib.hid hN;have HMM:=Lib.hid (And.intro hMf hMr);have HS:=Lib.hid (hN.small (by omega) (by rw [hMf,HIL.out];omega))
    clear hW hQ hN hMf hMr
    by_cases hlt:i < n
    ·have hltz:(i:Int) < (n:Int):=by omega
     obtain ⟨b,o,hpb,hbw,hbo,e0,e1,e2,e3,e4⟩:=(HMA.out.below HQ.out.bel).cells5 hlt;have HY:=Lib.hid (HRM.out _ (getO_mem xs i (by rw [HMA.out.1];exact hlt)))
     have HBO:=Lib.hid hbo;have HBW:=Lib.hid (HMA.out.2.1 _ (getO_mem xs i (by rw [HMA.out.1];exact hlt)))
     obtain ⟨y,hy⟩:∃ y,xs.getD i zeroO=y:=⟨_,rfl⟩;rw [hy] at e0 e1 e2 e3 e4 HY HBO HBW;subst hpb;obtain ⟨⟨kd,rn,at_,nn,bs⟩,py,cy⟩:=y
     dsimp only at e0 e1 e2 e3 e4
     obtain ⟨L,hL⟩:∃ L,bs.length=L:=⟨_,rfl⟩;rw [hL] at e4;have HL:=Lib.hid hL;clear hy hL hbo hbw
     by_cases h5:L≤500
     ·have h5z:¬ ((500:Int) < (L:Int)):=by omega
      have HY0:=Lib.hid (PlayY.start HC.out HQ.out #[.int .i64 kd,.int .i64 rn,.int .i64 at_,.int .i64 nn,.slice py L cy]);obtain ⟨yb,hyb⟩:∃ yb,wr.heap.size=yb:=⟨_,rfl⟩
      go_upto_region 8 with fail
      rw [hyb] at HY0;obtain ⟨W1,hW1⟩:∃ W1,wr.alloc (.cells #[.int .i64 kd,.int .i64 rn,.int .i64 at_,.int .i64 nn,.slice py L cy] 34)=W1:=⟨_,rfl⟩;rw [hW1] at HY0 ⊢;have HKB:Hid (Below wr.heap.size wr W1):=Lib.hid (by rw [← hW1];exact (Below.refl _ _).alloc (Nat.le_refl _) _)
      have HPB:Hid (0 < L → ∀ a,py=some a → a.block < w.heap.size):=Lib.hid (fun h0 a ha => by
       obtain ⟨b1,o1,e1,hb1,-⟩:=HBW.out.bat.cell (k:=0) (by show 0 < bs.length;rw [HL.out];exact h0)
       have e2:py=some ⟨b1,o1,none⟩:=e1
       rw [e2] at ha;cases ha;exact hb1)
      have hi100:i < 100:=by omega
      have HB1:Hid (BAt W1 py L bs):=Lib.hid (by rw [← HL.out];exact (HBO.out.below HKB.out).bat)
      have d0:=HY0.out.blk.cell 0;have d1:=HY0.out.blk.cell 1;have d4:=HY0.out.blk.cell 4;simp only [List.getElem?_toArray,List.getElem?_cons_zero,List.getElem?_cons_succ] at d0 d1 d4;clear e0 e1 e2 e3 e4 hyb hW1 HBO HBW HQ HKB
      go_upto_region 10 with fail
      iterate 10 (first | (go_says fail) | go_values | go_skip | go_guarded | go_step | go_upon | go_back | go_simp)
      go_cut [] (fun wx => Hid (PlayZ At w wx g r R zs q m d (i+1) yb #[.int .i64 kd,.int .i64 rn,.int .i64 at_,.int .i64 nn,.slice py L cy]))
      case first =>
       have hrn:-9223372036854775808≤rn∧rn≤9223372036854775807:=by
        have h0:=HY.out.1.2.1;simp only [Lit.wf,Bool.and_eq_true,decide_eq_true_eq] at h0;have h1:IntKind.i64.min = -9223372036854775808:=rfl;have h2:IntKind.i64.max=9223372036854775807:=rfl;omega
       have HRN:=Lib.hid hrn;clear hrn
       by_cases k1:kd=1
       ·as_aux_lemma =>
        have z1:(kd == 1)=true:=by simpa using k1
        clear k1;have hcr:=HC.out.create HY0.out.q.at_ HS.out;obtain ⟨nr,hnr⟩:∃ nr,M.runs.length=nr:=⟨_,rfl⟩;have hrl:rs.length=nr:=by rw [HY0.out.q.ref.rlen];exact hnr
        have hn1:nr≤1000:=by rw [← hnr];exact HS.out.runs
        rw [hnr] at hcr;have HCR:=Lib.hid hcr;clear hcr
        go_wp2_with fail
        refine HCR.out.mono ?_
        rintro e w6 ⟨own6,rfl,ha,hs,hk⟩;have HY6:=Lib.hid (HY0.out.prog ha hs hk);obtain ⟨pv,cv,ev,hcv,hcv2,hcell⟩:=own_form HY6.out.q.ref.runs;have cr2:=HY6.out.q.ref.obj.cell 2;simp only [List.getElem?_toArray,List.getElem?_cons_zero,List.getElem?_cons_succ] at cr2;rw [ev,hrl] at cr2;have HRL:=Lib.hid hrl;clear ha hs hk HCR d0 d1 d4 ev hcv hcv2 hcell hrl hnr HY0
        go_upto_region 15 with fail
        refine wp_region_any (by kernel_rfl) (wpAny_opsS (ops':=pl15Ops) (by kernel_rfl) ?_)
        refine pl15_region HY6.out.q.ref (by rw [HRL.out];exact hn1) HY6.out.q.bel.size ?a1 ?a2 ?_
        case a1 => exact Nat.le_refl 240
        case a2 => rfl
        intro γ w7 hr7 hk7 hv7
        have HY7:=Lib.hid (HY6.out.refd HC.out hr7 hk7 hv7 (fun x hx h0 a ha => by
         rcases List.mem_append.1 hx with hx | hx
         ·exact .inl ⟨x,hx,h0,ha⟩
         ·rw [List.mem_singleton.1 hx] at h0
          exact absurd h0 (by simp)))
        clear hr7 hk7 hv7 HY6 cr2;simp only [Act.put,List.setIfInBounds_toArray,List.set_cons_zero,List.set_cons_succ];simp only [Exit.inBlock]
        go_wp2
        go_meet
        exact Lib.hid ⟨own6,createS M,_,_,_,HY7.out,HN.out.create,HMM.out.1,HMM.out.2⟩
       by_cases k2:kd=2
       ·as_aux_lemma =>
        have z1:(kd == 1)=false:=by simpa using k1
        have z2:(kd == 2)=true:=by simpa using k2
        clear k1 k2;obtain ⟨cd,M',hap⟩:∃ cd M',appendS M rn bs=(cd,M'):=⟨_,_,rfl⟩;have hfa:=appendS_fails M rn bs;have hro:=appendS_room M rn bs;have hsm:=HN.out.append hi100 rn (b:=bs) (by rw [HL.out];exact h5)
        rw [hap] at hfa hro hsm
        dsimp only at hfa hro hsm
        have HSM:=Lib.hid hsm;have HMN:Hid (M'.fails=zs∧M'.room=R):=Lib.hid ⟨by rw [hfa];exact HMM.out.1,by rw [hro];exact HMM.out.2⟩
        have HRB:Hid (M.room≤9223372036854775807):=Lib.hid (by rw [HMM.out.2,← HR.out];have:=HRW.out;omega)
        have HAP:=Lib.hid hap;clear hap hfa hro hsm d0 d1 d4
        go_upto_region 17 with fail
        refine wp_region_any (by kernel_rfl) (wpAny_opsS (ops':=pl17Ops) (by kernel_rfl) ?_)
        refine pl17_region HC.out rn py cy cd rfl ?a1 ?a2 ?a3 ?a4 HAP.out HS.out HRN.out.1 HRN.out.2 HRB.out HL.out h5 HB1.out HPB.out HY0.out ?_
        case a1 => exact Nat.le_refl 240
        case a2 => rfl
        case a3 => rfl
        case a4 => rfl
        intro γ w7 hy7;have HY7:=Lib.hid hy7;clear hy7 HY0 HB1;simp only [Act.put,List.setIfInBounds_toArray,List.set_cons_zero,List.set_cons_succ]
        go_wp2
        go_meet
        exact Lib.hid ⟨γ.own,M',vr,vt,γ.rs,HY7.out,HSM.out,HMN.out.1,HMN.out.2⟩
       by_cases k3:kd=3
       ·as_aux_lemma =>
        have z1:(kd == 1)=false:=by simpa using k1
        have z2:(kd == 2)=false:=by simpa using k2
        have z3:(kd == 3)=true:=by simpa using k3
        clear k1 k2 k3
        have hat:-9223372036854775808≤at_∧at_≤9223372036854775807:=by
         have h0:=HY.out.1.2.2.1;simp only [Lit.wf,Bool.and_eq_true,decide_eq_true_eq] at h0;have h1:IntKind.i64.min = -9223372036854775808:=rfl;have h2:IntKind.i64.max=9223372036854775807:=rfl;omega
        have hnn:-9223372036854775808≤nn∧nn≤9223372036854775807:=by
         have h0:=HY.out.1.2.2.2;simp only [Lit.wf,Bool.and_eq_true,decide_eq_true_eq] at h0;have h1:IntKind.i64.min = -9223372036854775808:=rfl;have h2:IntKind.i64.max=9223372036854775807:=rfl;omega
        have HAT:=Lib.hid hat;have HNN:=Lib.hid hnn;have hrd:=HC.out.read rn at_ nn HY0.out.q.at_ HS.out HRN.out.1 HRN.out.2 hat.1 hat.2 hnn.1 hnn.2;obtain ⟨⟨X,cd⟩,hrr⟩:∃ z,readS M rn at_ nn=z:=⟨_,rfl⟩;rw [hrr] at hrd;have HRD:=Lib.hid hrd;have HRR:=Lib.hid hrr;obtain ⟨T,hT⟩:∃ T,hasS M rn=T:=⟨_,rfl⟩;have HT:=Lib.hid hT;have d2:=HY0.out.blk.cell 2;have d3:=HY0.out.blk.cell 3;simp only [List.getElem?_toArray,List.getElem?_cons_zero,List.getElem?_cons_succ] at d2 d3;clear hat hnn hrd hrr hT
        go_wp2_with fail
        refine HRD.out.mono ?_
        rintro e w6 ⟨v,rfl,ho,hk⟩;obtain ⟨p6,c6,rfl,_,_,hbt,_,_⟩:=OwnB.slice ho;have HY6:=Lib.hid (HY0.out.none_ HC.out hk);have f1:=HY6.out.blk.cell 1;have f2:=HY6.out.blk.cell 2;have f3:=HY6.out.blk.cell 3;simp only [List.getElem?_toArray,List.getElem?_cons_zero,List.getElem?_cons_succ] at f1 f2 f3;have hHAS:=rhas_any w6 w.heap.size r M q m d vr vt rs HY6.out.q.ref HS.out.runs rn HRN.out.1 HRN.out.2;rw [HT.out] at hHAS;have HHAS:=Lib.hid hHAS
        dsimp only at hbt ⊢
        have HX:=Lib.hid hbt;clear ho hk hHAS HRD d0 d1 d2 d3 d4 hbt HY0 HB1
        cases T with
        | false =>
          have he:=HRR.out;unfold readS at he;rw [if_pos HT.out] at he
          injection he with hx he
          subst hx;subst he;have cv:Sem.run Try.prog (convert 32 9 (.slice p6 0 c6)) w6=.ok (.string ⟨#[]⟩) w6:=conv_at (P:=Try.prog) HX.out rfl _ _ _ Try.underlying32 Try.underlying5 Try.underlying9 c6
          go_wp2_with fail
          refine HHAS.out.mono ?_
          rintro e w7 ⟨rfl,rfl⟩
          go_wp2
          go_meet
          exact Lib.hid ⟨own,M,vr,vt,rs,HY6.out,HN.out.mono (by omega),HMM.out.1,HMM.out.2⟩
        | true =>
          obtain ⟨k,hk,hkl,hkt⟩:=has_iff.1 HT.out;subst hk;obtain ⟨pv,cv,ev,hcv,hcv2,hcell⟩:=own_form HY6.out.q.ref.runs;have hrl:k < rs.length:=by rw [HY6.out.q.ref.rlen];exact hkl
          obtain ⟨g2,cur,hpv,hbg,_,hcc⟩:=hcell (by omega)
          subst hpv;obtain ⟨x,hx⟩:∃ x,rs.getD k zeroR=x:=⟨_,rfl⟩;have hxm:x ∈ rs:=by rw [← hx,List.getD,List.getElem?_eq_getElem hrl];exact List.getElem_mem hrl
          have hrun:runS M (k:Int)=x.b:=by rw [runS_some HT.out,HY6.out.q.ref.get k,hx]
          have hdx:=HY6.out.q.ref.data x hxm;obtain ⟨⟨xb,xt,px,cx⟩,hxx⟩:∃ x',x=x':=⟨_,rfl⟩;subst hxx
          dsimp only at hrun hdx
          obtain ⟨Z,hZ⟩:∃ Z,xb.length=Z:=⟨_,rfl⟩
          have ck:w6.cell? ⟨g2,k,none⟩=some (.slice px Z cx):=by
           rw [hbg.cell,hcc k hrl,List.getElem?_map,getR_eq hrl,hx,← hZ];rfl
          have cr2:=HY6.out.q.ref.obj.cell 2;simp only [List.getElem?_toArray,List.getElem?_cons_zero,List.getElem?_cons_succ] at cr2;rw [ev] at cr2;obtain ⟨nn2,hnn2⟩:∃ nn2,rs.length=nn2:=⟨_,rfl⟩;rw [hnn2] at cr2 hrl;rw [hZ] at hdx;have hnk:(k:Int) < (nn2:Int):=by omega
          have HDX:=Lib.hid hdx;have HZ:=Lib.hid hZ;have hrr:=HRR.out;unfold readS at hrr;rw [if_neg (by rw [HT.out];decide),hrun,hZ] at hrr
          have HR2:=Lib.hid hrr;obtain ⟨BAD,hBAD⟩:∃ BAD:Bool,decide (at_ < 0 ∨ nn < 0 ∨ (Z:Int) < at_)=BAD:=⟨_,rfl⟩;have HBAD:=Lib.hid hBAD;clear hkl hkt ev hcv hcv2 hcell hbg hcc hx hxm hrun hdx hZ hnn2 hrr hBAD HRR HMA HRM
          go_wp2_with fail
          refine HHAS.out.mono ?_
          rintro e w7 ⟨rfl,rfl⟩;clear HHAS
          go_upto_region 24 with fail
          go_cut [147] (fun s wx => s=.bool BAD ∧ ∃ nq,wx=w6.drewN nq)
          case first =>
           by_cases hA:at_ < 0
           ·obtain rfl:BAD=true:=by rw [← HBAD.out];exact decide_eq_true (.inl hA)
            go_quiet (fail)
            go_wp2
            go_meet
            exact ⟨rfl,_,rfl⟩
           ·by_cases hN2:nn < 0
            ·obtain rfl:BAD=true:=by rw [← HBAD.out];exact decide_eq_true (.inr (.inl hN2))
             go_quiet (fail)
             go_wp2
             go_meet
             exact ⟨rfl,_,rfl⟩
            ·by_cases hC:(Z:Int) < at_
             ·obtain rfl:BAD=true:=by rw [← HBAD.out];exact decide_eq_true (.inr (.inr hC))
              go_quiet (fail)
              go_wp2
              go_meet
              exact ⟨rfl,_,rfl⟩
             ·obtain rfl:BAD=false:=by rw [← HBAD.out];exact decide_eq_false (by omega)
              go_quiet (fail)
              go_wp2
              go_meet
              exact ⟨rfl,_,rfl⟩
          case rest =>
           obtain ⟨rfl,nq,hwc⟩:=hcut;obtain ⟨w8,rfl⟩:∃ x,x=wc:=⟨_,rfl⟩;have hk8:Kept noneB w6 w8:=by rw [hwc];exact (Kept.refl noneB w6).drewN _
           have HY8:=Lib.hid (HY6.out.none_ HC.out hk8);have HX8:=Lib.hid (HX.out.kept hk8 (fun _ _ _ h => h))
           have HDX8:=Lib.hid (HDX.out.1.kept hk8 (fun _ _ _ h => h))
           have g1:w8.cell? ⟨yb,1,none⟩=some (.int .i64 (k:Int)):=by rw [hwc];exact f1
           have g2':w8.cell? ⟨yb,2,none⟩=some (.int .i64 at_):=by rw [hwc];exact f2
           have g3':w8.cell? ⟨yb,3,none⟩=some (.int .i64 nn):=by rw [hwc];exact f3
           have cr2':w8.cell? ⟨r,2,none⟩=some (.slice (some ⟨g2,0,none⟩) nn2 cv):=by rw [hwc];exact cr2
           have ck':w8.cell? ⟨g2,k,none⟩=some (.slice px Z cx):=by rw [hwc];exact ck
           clear hwc hk8 f1 f2 f3 cr2 ck HX HY6
           cases BAD with
           | true =>
             have he:=HR2.out;rw [if_pos (by have:=of_decide_eq_true HBAD.out;omega)] at he
             injection he with hx he
             subst hx;subst he;have cv8:Sem.run Try.prog (convert 32 9 (.slice p6 0 c6)) w8=.ok (.string ⟨#[]⟩) w8:=conv_at (P:=Try.prog) HX8.out rfl _ _ _ Try.underlying32 Try.underlying5 Try.underlying9 c6
             go_wp2
             go_meet
             exact Lib.hid ⟨own,M,vr,vt,rs,HY8.out,HN.out.mono (by omega),HMM.out.1,HMM.out.2⟩
           | false =>
             have hb:=of_decide_eq_false HBAD.out;have he:=HR2.out;rw [if_neg (by omega)] at he
             injection he with hx he
             obtain ⟨a,rfl⟩:∃ a:Nat,at_=(a:Int):=⟨at_.toNat,by omega⟩
             obtain ⟨N,rfl⟩:∃ N:Nat,nn=(N:Int):=⟨nn.toNat,by omega⟩
             subst he;have haZ:a≤Z:=by omega
             have haz:(a:Int)≤(Z:Int):=by omega
             have hacz:(a:Int)≤(cx:Int):=by have:=HDX.out.2.1;omega
             have hzc:(Z:Int)≤(cx:Int):=by have:=HDX.out.2.1;omega
             have HXE:=Lib.hid hx;clear hb hx;obtain ⟨D,hD⟩:∃ D,Z - a=D:=⟨_,rfl⟩;obtain ⟨YB,hYB⟩:∃ YB,xb.drop a=YB:=⟨_,rfl⟩;have hYL:YB.length=D:=by rw [← hYB,List.length_drop,HZ.out,hD]
             have hcw:∀ (nq:Nat) (P':Option Addr),P'=(if cx=a then px else px.map (·.add a)) → Sem.run Try.prog (convert 32 9 (.slice P' (Z - a) (cx - a))) (w8.drewN nq)=.ok (.string (str YB)) (w8.drewN nq):=by
              intro nq P' hP';subst hP';have h0:BAt (w8.drewN nq) (if cx=a then px else px.map (·.add a)) (Z - a) (xb.drop a):=(HDX8.out.kept ((Kept.refl noneB w8).drewN nq) (fun _ _ _ h => h)).drop haZ HDX.out.2.1 HZ.out
              rw [hYB] at h0;exact conv_at (P:=Try.prog) h0 (by rw [hYL,hD]) _ _ _ Try.underlying32 Try.underlying5 Try.underlying9 _
             have HCW:=Lib.hid hcw;have HYL:=Lib.hid hYL;have HXB:Hid (X=YB.take N):=Lib.hid (by rw [← HXE.out,← hYB];rfl)
             have hsY:(str YB).size=D:=by rw [str_size];exact hYL
             obtain ⟨K,hK⟩:∃ K,min N D=K:=⟨_,rfl⟩;have hmin:(if D < N then (D:Int) else (N:Int))=(K:Int):=by split<;>omega
             have hex:(str YB).extract 0 K=str X:=by rw [str_take14,HXB.out,← hK,← HYL.out];exact congrArg str (List.take_eq_take_iff.2 (by omega))
             have cvX:∀ nq:Nat,Sem.run Try.prog (convert 32 9 (.slice p6 X.length c6)) (w8.drewN nq)=.ok (.string (str X)) (w8.drewN nq):=fun nq => conv_at (P:=Try.prog) (HX8.out.kept ((Kept.refl noneB w8).drewN nq) (fun _ _ _ h => h)) rfl _ _ _ Try.underlying32 Try.underlying5 Try.underlying9 c6
             have HYZ:Hid (∀ nq:Nat,PlayY At w (w8.drewN nq) g own r M M q m d vr vt rs yb #[.int .i64 kd,.int .i64 k,.int .i64 a,.int .i64 N,.slice py L cy]):=Lib.hid (fun nq => HY8.out.none_ HC.out ((Kept.refl noneB w8).drewN nq))
             have hKD:(K:Int)≤(D:Int):=by omega
             clear hcw hYB hYL
             cases px with
             | none =>
               have cw:∀ nq:Nat,Sem.run Try.prog (convert 32 9 (.slice none (Z - a) (cx - a))) (w8.drewN nq)=.ok (.string (str YB)) (w8.drewN nq):=fun nq => HCW.out nq _ (by split<;>rfl)
               clear hD hK
               go_upto_region 26 with fail
               go_quiet (fail)
               go_wp2
               go_meet
               exact Lib.hid ⟨own,M,vr,vt,rs,HYZ.out _,HN.out.mono (by omega),HMM.out.1,HMM.out.2⟩
             | some ax =>
               by_cases hca:cx=a
               ·have cw:∀ nq:Nat,Sem.run Try.prog (convert 32 9 (.slice (some ax) (Z - a) 0)) (w8.drewN nq)=.ok (.string (str YB)) (w8.drewN nq):=fun nq => by
                 have:=HCW.out nq _ (by rw [if_pos hca])
                 rw [hca,Nat.sub_self] at this;exact this
                clear hD hK
                go_upto_region 26 with fail
                go_quiet (fail)
                go_wp2
                go_meet
                exact Lib.hid ⟨own,M,vr,vt,rs,HYZ.out _,HN.out.mono (by omega),HMM.out.1,HMM.out.2⟩
               ·have cw:∀ nq:Nat,Sem.run Try.prog (convert 32 9 (.slice (some (ax.add a)) (Z - a) (cx - a))) (w8.drewN nq)=.ok (.string (str YB)) (w8.drewN nq):=fun nq => HCW.out nq _ (by rw [if_neg hca];rfl)
                clear hD hK
                go_upto_region 26 with fail
                go_quiet (fail)
                go_wp2
                go_meet
                exact Lib.hid ⟨own,M,vr,vt,rs,HYZ.out _,HN.out.mono (by omega),HMM.out.1,HMM.out.2⟩
       have z1:(kd == 1)=false:=by simpa using k1
       have z2:(kd == 2)=false:=by simpa using k2
       have z3:(kd == 3)=false:=by simpa using k3
       clear k1 k2 k3
       by_cases k4:kd=4
       ·as_aux_lemma =>
        have z4:(kd == 4)=true:=by simpa using k4
        clear k4;have hHAS:=rhas_any W1 w.heap.size r M q m d vr vt rs HY0.out.q.ref HS.out.runs rn HRN.out.1 HRN.out.2;obtain ⟨T,hT⟩:∃ T,hasS M rn=T:=⟨_,rfl⟩;rw [hT] at hHAS;have HHAS:=Lib.hid hHAS;have HT:=Lib.hid hT;clear hHAS hT
        cases T with
        | false =>
          have hdr:=HC.out.drop rn HY0.out.q.at_ HS.out HRN.out.1 HRN.out.2;rw [show dropS M rn=(14,M) by unfold dropS;rw [if_pos HT.out]] at hdr
          have HDR:=Lib.hid hdr;clear hdr
          go_wp2_with fail
          refine HHAS.out.mono ?_
          rintro e w6 ⟨rfl,rfl⟩
          go_wp2_with fail
          refine HDR.out.mono ?_
          rintro e w7 ⟨own',rfl,ha,hs,hk⟩;have HYE:=Lib.hid (HY0.out.prog ha hs hk);clear ha hs hk
          go_wp2
          go_meet
          exact Lib.hid ⟨own',M,vr,vt,rs,HYE.out,HN.out.mono (by omega),HMM.out.1,HMM.out.2⟩
        | true =>
          obtain ⟨k,hk,hkl,hkt⟩:=has_iff.1 HT.out;subst hk;obtain ⟨pv,cv,ev,hcv,hcv2,hcell⟩:=own_form HY0.out.q.ref.there;have hrl:k < rs.length:=by rw [HY0.out.q.ref.rlen];exact hkl
          obtain ⟨g3,cur,hpv,hbg,_,hcc⟩:=hcell (by omega)
          subst hpv
          have ck:W1.cell? ⟨g3,k,none⟩=some (.bool (rs.getD k zeroR).t):=by
           rw [hbg.cell,hcc k hrl,List.getElem?_map,getR_eq hrl];rfl
          have fk:=hbg.frozen k;have cr3:=HY0.out.q.ref.obj.cell 3;simp only [List.getElem?_toArray,List.getElem?_cons_zero,List.getElem?_cons_succ] at cr3;rw [ev] at cr3;have HYT:=Lib.hid ((HY0.out.there HC.out hrl ev).none_ HC.out ((Kept.refl noneB _).drew));have hdr:=HC.out.drop (k:Int) HYT.out.q.at_ HS.out HRN.out.1 HRN.out.2;obtain ⟨M',hM'⟩:∃ M':SM,{ M with runs:=M.runs.set k ((M.runs.getD k ([],false)).1,false) }=M':=⟨_,rfl⟩
          rw [hM'] at HYT
          have hDS:dropS M (k:Int)=(0,M'):=by
           rw [← hM'];unfold dropS;rw [if_neg (by rw [HT.out];decide)]
           rfl
          rw [hDS] at hdr;have HDR:=Lib.hid hdr;have hsn:=HN.out.drop (k:Int);rw [hDS] at hsn;have HSN:=Lib.hid hsn;have HMN:Hid (M'.fails=zs∧M'.room=R):=Lib.hid (by rw [← hM'];exact HMM.out)
          obtain ⟨nn3,hnn3⟩:∃ nn3,rs.length=nn3:=⟨_,rfl⟩;rw [hnn3] at cr3 hrl;have hnk:(k:Int) < (nn3:Int):=by omega
          obtain ⟨tk,htk⟩:∃ tk,(rs.getD k zeroR).t=tk:=⟨_,rfl⟩;rw [htk] at ck;have a1:W1.drew.cell? ⟨yb,1,none⟩=some (.int .i64 (k:Int)):=d1;have a2:W1.drew.cell? ⟨r,3,none⟩=some (.slice (some ⟨g3,0,none⟩) nn3 cv):=cr3;have a3:W1.drew.cell? ⟨g3,k,none⟩=some (.bool tk):=ck;have a4:W1.drew.frozen? ⟨g3,k,none⟩=false:=fk;clear hkl hkt ev hcv hcv2 hcell hbg hcc hdr hsn hDS hM' htk
          go_wp2_with fail
          refine HHAS.out.mono ?_
          rintro e w6 ⟨rfl,rfl⟩;clear HHAS
          go_upto_region 34 with fail
          go_region
          obtain ⟨W2,hW2⟩:∃ W2,(W1.setCell ⟨g3,k,none⟩ (.bool false)).drew=W2:=⟨_,rfl⟩;rw [hW2] at HYT HDR ⊢;have b1':=HYT.out.blk.cell 1;simp only [List.getElem?_toArray,List.getElem?_cons_zero,List.getElem?_cons_succ] at b1';clear hW2 a1 a2 a3 a4 d0 d1 d4 ck fk cr3
          go_wp2_with fail
          refine HDR.out.mono ?_
          rintro e w7 ⟨own',rfl,ha,hs,hk⟩;have HYE:=Lib.hid (HYT.out.prog ha hs hk);clear ha hs hk HDR
          go_wp2
          go_meet
          exact Lib.hid ⟨own',M',vr,vt,_,HYE.out,HSN.out,HMN.out.1,HMN.out.2⟩
       ·have z4:(kd == 4)=false:=by simpa using k4
        go_wp2
        go_meet
        exact Lib.hid ⟨own,M,vr,vt,rs,HY0.out,HN.out.mono (by omega),HMM.out.1,HMM.out.2⟩
      case rest => as_aux_lemma =>
       obtain ⟨w5,rfl⟩:∃ x,x=wc:=⟨_,rfl⟩;clear HY0 d0 d1 d4 HB1 HN HMM HS;obtain ⟨own5,M5,vr5,vt5,rs5,hY,hN5,hf5,hr5⟩:=hcut.out;have HY5:=Lib.hid hY;have HN5:=Lib.hid hN5;have HM5:=Lib.hid (And.intro hf5 hr5);have HS5:=Lib.hid (hN5.small (by omega) (by rw [hf5,HIL.out];omega))
       have c1:=hY.blk.cell 1;simp only [List.getElem?_toArray,List.getElem?_cons_zero,List.getElem?_cons_succ] at c1
       have hrn:-9223372036854775808≤rn∧rn≤9223372036854775807:=by
        have h0:=HY.out.1.2.1;simp only [Lit.wf,Bool.and_eq_true,decide_eq_true_eq] at h0;have h1:IntKind.i64.min = -9223372036854775808:=rfl;have h2:IntKind.i64.max=9223372036854775807:=rfl;omega
       have HRN:=Lib.hid hrn;have hHAS:=rhas_any w5 w.heap.size r M5 q m d vr5 vt5 rs5 hY.q.ref HS5.out.runs rn hrn.1 hrn.2;obtain ⟨T,hT⟩:∃ T,hasS M5 rn=T:=⟨_,rfl⟩;rw [hT] at hHAS;have HHAS:=Lib.hid hHAS;have HT:=Lib.hid hT;obtain ⟨Z,hZ⟩:∃ Z,(runS M5 rn).length=Z:=⟨_,rfl⟩;have HZ:=Lib.hid hZ;clear hY hN5 hf5 hr5 hrn hHAS hT hZ hcut
       go_wp2_with fail
       refine HHAS.out.mono ?_
       rintro e w6 ⟨rfl,rfl⟩
       go_upto_if 198 with fail
       go_cut [18] (fun s wx => s=.int .i64 (Z:Nat)∧Hid (PlayY At w wx g own5 r M5 M5 q m d vr5 vt5 rs5 yb #[.int .i64 kd,.int .i64 rn,.int .i64 at_,.int .i64 nn,.slice py L cy]))
       case first =>
        cases T with
        | false =>
          go_wp2
          go_meet
          refine ⟨by rw [← HZ.out,runS_none HT.out];rfl,HY5⟩
        | true =>
          obtain ⟨k,hk,hkl,hkt⟩:=has_iff.1 HT.out;subst hk;obtain ⟨pv,cv,ev,hcv,hcv2,hcell⟩:=own_form HY5.out.q.ref.runs;have hrl:k < rs5.length:=by rw [HY5.out.q.ref.rlen];exact hkl
          obtain ⟨g2,cur,hpv,hbg,_,hcc⟩:=hcell (by omega)
          subst hpv;obtain ⟨x,hx⟩:∃ x,rs5.getD k zeroR=x:=⟨_,rfl⟩;have hzx:x.b.length=Z:=by rw [← HZ.out,runS_some HT.out,HY5.out.q.ref.get k,hx]
          have ck:w5.cell? ⟨g2,k,none⟩=some (.slice x.p Z x.c):=by
           rw [hbg.cell,hcc k hrl,List.getElem?_map,getR_eq hrl,hx,← hzx];rfl
          have cr2:=HY5.out.q.ref.obj.cell 2;simp only [List.getElem?_toArray,List.getElem?_cons_zero,List.getElem?_cons_succ] at cr2;rw [ev] at cr2;obtain ⟨nn2,hnn2⟩:∃ nn2,rs5.length=nn2:=⟨_,rfl⟩;rw [hnn2] at cr2 hrl;have hnk:(k:Int) < (nn2:Int):=by omega
          clear hkl hkt ev hcv hcv2 hcell hbg hcc hx hzx hnn2 HHAS HT HZ HN5 HM5 HS5 HRN HMA HRM
          go_upto_region 39 with fail
          go_quiet (fail)
          go_wp2
          go_meet
          exact ⟨rfl,Lib.hid (HY5.out.none_ HC.out ((Kept.refl noneB w5).drewN _))⟩
       case rest =>
        obtain ⟨w6,rfl⟩:∃ x,x=wc:=⟨_,rfl⟩;obtain ⟨rfl,HY6⟩:=hcut;clear c1 HHAS HY5;have c1:=HY6.out.blk.cell 1;have c4:=HY6.out.q.ref.obj.cell 4;have c5:=HY6.out.q.ref.obj.cell 5;simp only [List.getElem?_toArray,List.getElem?_cons_zero,List.getElem?_cons_succ] at c1 c4 c5;obtain ⟨U,hU⟩:∃ U,usedS M5=U:=⟨_,rfl⟩;obtain ⟨P,hP⟩:∃ P,M5.peak=P:=⟨_,rfl⟩;obtain ⟨V,hV⟩:∃ V,M5.writes=V:=⟨_,rfl⟩;rw [hV] at c4;rw [hP] at c5;have se1:=since_cell c1;have se4:=since_cell c4;have se5:=since_cell c5;have HYS:Hid (∀ p:Since w6,PlayY At w p.w' g own5 r M5 M5 q m d vr5 vt5 rs5 yb #[.int .i64 kd,.int .i64 rn,.int .i64 at_,.int .i64 nn,.slice py L cy]):=Lib.hid (fun p => HY6.out.none_ HC.out (Kept.of_below p.bel noneB))
        have HU1:Hid (∀ p:Since w6,Calls Try.prog 15 #[ptrS g] p.w' fun e w' => e=.returned (.int .i64 (U:Nat))∧Below p.w'.heap.size p.w' w'):=Lib.hid (fun p => by
         have:=HC.out.used (HYS.out p).q.at_ HS5.out;rw [hU] at this
         exact this.mono fun e w' ⟨h1,h2⟩ => ⟨h1,h2.below (Nat.le_refl _) (fun _ h => h.elim)⟩)
        have HU2:Hid (∀ p:Since w6,Calls Try.prog 16 #[ptrS r] p.w' fun e w' => e=.returned (.int .i64 (U:Nat))∧p.w'=w'):=Lib.hid (fun p => by
         have:=rused_any p.w' w.heap.size r M5 q m d vr5 vt5 rs5 (HYS.out p).q.ref HS5.out.runs (Nat.le_trans HS5.out.used (by decide))
         rw [hU] at this
         exact this)
        have HU3:Hid (∀ p:Since w6,Calls Try.prog 17 #[ptrS g] p.w' fun e w' => e=.returned (.int .i64 (P:Nat))∧Below p.w'.heap.size p.w' w'):=Lib.hid (fun p => by
         have:=HC.out.peak (HYS.out p).q.at_ HS5.out;rw [hP] at this
         exact this.mono fun e w' ⟨h1,h2⟩ => ⟨h1,h2.below (Nat.le_refl _) (fun _ h => h.elim)⟩)
        have HU4:Hid (∀ p:Since w6,Calls Try.prog 18 #[ptrS g] p.w' fun e w' => e=.returned (.int .i64 (V:Nat))∧Below p.w'.heap.size p.w' w'):=Lib.hid (fun p => by
         have:=HC.out.writes (HYS.out p).q.at_ HS5.out;rw [hV] at this
         exact this.mono fun e w' ⟨h1,h2⟩ => ⟨h1,h2.below (Nat.le_refl _) (fun _ h => h.elim)⟩)
        have HU5:Hid (∀ p:Since w6,Calls Try.prog 19 #[ptrS g,.int .i64 rn] p.w' fun e w' => e=.returned (.int .i64 (Z:Nat))∧Below p.w'.heap.size p.w' w'):=Lib.hid (fun p => by
         have:=HC.out.size rn (HYS.out p).q.at_ HS5.out HRN.out.1 HRN.out.2;rw [HZ.out] at this
         exact this.mono fun e w' ⟨h1,h2⟩ => ⟨h1,h2.below (Nat.le_refl _) (fun _ h => h.elim)⟩)
        clear hU hP hV c1 c4 c5 HT HS5 HZ HRN HMA HRM
        go_upto_region 40 with fail
        refine wp_region_since (by kernel_rfl) (by kernel_rfl) ?_
        repeat (quiet_step (first
         | (go_at_call 15;exact Calls.since_of (HU1.out _))
         | (go_at_call 16;exact Calls.since_same (HU2.out _))
         | (go_at_call 17;exact Calls.since_of (HU3.out _))
         | (go_at_call 18;exact Calls.since_of (HU4.out _))
         | (go_at_call 19;exact Calls.since_of (HU5.out _))))
        refine wpQuiet_nil ?_
        intro wq hw';have hwq:=since_bel hw';have HYQ:=Lib.hid (HY6.out.none_ HC.out (Kept.of_below hwq noneB));clear hw' hwq se1 se4 se5 HYS HU1 HU2 HU3 HU4 HU5
        go_wp2
        go_roundw
        case rel => exact ⟨i+1,by omega,by go_num,Lib.hid ⟨own5,M5,vr5,vt5,rs5,HYQ.out.q,HN5.out,HM5.out.1,HM5.out.2⟩⟩
        case measure => simp [RowKit.intOf];omega
     ·have h5z:(500:Int) < (L:Int):=by omega
      have HAN:Hid (Calls Try.prog 7 #[] (wr.alloc (.cells #[.int .i64 kd,.int .i64 rn,.int .i64 at_,.int .i64 nn,.slice py L cy] 34)) fun e w' => e=.returned (.bool true)∧Below wr.heap.size wr w'):=Lib.hid ((ans14_any HC.out _).mono fun e w' ⟨h1,h2⟩ => ⟨h1,((Below.refl _ wr).alloc (Nat.le_refl _) _).trans (h2.mono (by simp))⟩)
      go_wp2_with fail
      refine HAN.out.mono ?_
      rintro e wb ⟨rfl,hbb⟩;have HB:=Lib.hid (HQ.out.bel.trans (hbb.mono HQ.out.bel.size));clear hbb
      go_wp2
      go_ret
      exact ⟨rfl,HB.out⟩
    ·obtain rfl:i=n:=by omega
     have hks:¬ ((i:Int) < (i:Int)):=by omega
     have HAN:=Lib.hid (ans14_any HC.out wr)
     go_wp2_with fail
     refine HAN.out.mono ?_
     rintro e wb ⟨rfl,hbb⟩;have HB:=Lib.hid (HQ.out.bel.trans (hbb.mono HQ.out.bel.size));clear hbb
     go_wp2
     go_ret
     exact ⟨rfl,HB.out⟩
  ·have hm1:¬ ((100:Int) < (m:Int)):=by omega
   have hn1:(100:Int) < (n:Int):=by omega
   go_enter Try.func3,Try.ntmps3
   go_wp2_with fail
   refine HAN.out.mono ?_
   rintro e w2 ⟨rfl,hk⟩;have HK:=Lib.hid hk;clear hk
   go_wp2
   go_ret
   exact ⟨rfl,HK.out⟩
 ·have hm1:(100:Int) < (m:Int):=by omega
  go_enter Try.func3,Try.ntmps3
  go_wp2_with fail
  refine HAN.out.mono ?_
  rintro e w2 ⟨rfl,hk⟩;have HK:=Lib.hid hk;clear hk
  go_wp2
  go_ret
  exact ⟨rfl,HK.out⟩
end Go.Proofs.Ytfpoipamioaklaa.Walk
end
