/- Texts of this seat, merged: what the proof reaches. -/
import Derived.Test.YtfpoipamioaklaaStorePlaysX5
import Derived.Lib.AppendZerosOnto
import Derived.Test.YtfpoipamioaklaaStorePlaysX4
import Derived.Test.YtfpoipamioaklaaStorePlaysX3
import Derived.Lib.AppendStr
namespace Go.Proofs.Ytfpoipamioaklaa
namespace Base
end Base
namespace Block
end Block
namespace Rec
end Rec
namespace Txt
end Txt
end Go.Proofs.Ytfpoipamioaklaa
section
namespace Go.Proofs.Ytfpoipamioaklaa.Byt
open Go.ChangeShapes Go.WideShapes Go.ChangeAt Go.RowKit Base Go.Lib
set_option linter.unusedVariables false
theorem run_bytes_any {P:Program} {w:World} (t ty:TypeId) (base:Nat) (e:TypeId) (i:TypeInfo) (ht:P.underlying t=some (.slice e)) (hi:P.info? e=some i) (hz:i.zero=some (.int .u8 0)) (hsize:i.size=1) (hby:i.bytes=1)
 (v:Value) (n:Nat) (xs:List Int) (hown:w.ownsRow base e 1 v n (xs.map (Value.int .u8)))
 (p:Option Addr) (m c:Nat) (bs:List UInt8) (hb:BAt w p m bs) (hl:bs.length=m) (hsum:n+m≤140737488351232) (hbase:base≤w.heap.size) :
 ∃ v' w',(Builtin.append_ #[t,t] ty #[v,.slice p m c]).run P w=.ok v' w'∧w'.ownsRow base e 1 v' (n+m) ((xs++nums bs).map (Value.int .u8))∧w.grownBy w' v.ownBlock∧NewOr w v v':=by
 rcases p with _ | ad
 ·have hm:m=0:=by
   rcases Nat.eq_zero_or_pos m with h0 | h0
   ·exact h0
   ·obtain ⟨_,_,he,_⟩:=hb h0
    cases he
  subst hm;obtain rfl:bs=[]:=List.eq_nil_of_length_eq_zero hl
  have hrun:(Builtin.append_ #[t,t] ty #[v,.slice none 0 c]).run P w=.ok v w:=by
   rcases hown.2 with ⟨rfl,rfl⟩ | ⟨g,cap,cur,rfl,_,_,hnc,_⟩
   ·simp [Builtin.append_,run_underlying ht,sizeOf,typeInfo,hi,Builtin.lenOf,Builtin.firstCells]
   ·simp [Builtin.append_,run_underlying ht,sizeOf,typeInfo,hi,Builtin.lenOf,Builtin.firstCells,hnc,storeCells]
  exact ⟨v,w,hrun,by simpa [nums] using hown,World.grownBy.refl w _,NewOr.refl w v⟩
 ·obtain ⟨v',w',hr,h2,h3,h4⟩:=run_append_new (P:=P) base t ty e i (.int .u8 0) 1 ht hi hz hsize hby rfl v n (xs.map (Value.int .u8)) hown ad m c ((nums bs).map (Value.int .u8)) (by rw [List.length_map,nums_length,hl];omega) (by
   intro j u hj
   have hjl:j < m:=by
    have:=(List.getElem?_eq_some_iff.1 hj).1;rw [List.length_map,nums_length,hl] at this;exact this
   obtain ⟨b,off,he,hc⟩:=hb (by omega)
   cases he
   rw [nums_getElem bs j (by omega)] at hj
   cases hj
   rw [WideShapes.add_plain]
   exact hc j hjl) (ints_oneCell .u8 _) (by unfold maxLen;omega) (by omega) hbase
  rw [← List.map_append] at h2;exact ⟨v',w',hr,h2,h3,h4⟩
theorem step_bytes {P:Program} {w:World} {ops:Array Oper} {o:Oper} {a:Act} {K0:Act → World → Prop} {Q:Exit → Act → World → Prop} {E:Prop} (hw:Region.wanted o (yielded ops a.tmps)=true) (s x:Operand) (t:TypeId)
 (ho:o.op=.call { callee:=.builtin .append,args:=#[s,x],argTypes:=#[t,t] })
 (base:Nat) (e:TypeId) (i:TypeInfo) (ht:P.underlying t=some (.slice e)) (hi:P.info? e=some i) (hz:i.zero=some (.int .u8 0)) (hsize:i.size=1) (hby:i.bytes=1)
 (v:Value) (n:Nat) (xs:List Int) (hs:a.eval s=v) (hown:w.ownsRow base e 1 v n (xs.map (Value.int .u8)))
 (p:Option Addr) (m c:Nat) (bs:List UInt8) (hx:a.eval x=.slice p m c) (hb:BAt w p m bs) (hl:bs.length=m) (hsum:n+m≤140737488351232) (hbase:base≤w.heap.size)
 (h:∀ v' w',w'.ownsRow base e 1 v' (n+m) ((xs++nums bs).map (Value.int .u8)) → w.grownBy w' v.ownBlock → NewOr w v v' → K0 (a.put o.dst v') w') :
 if Region.wanted o (yielded ops a.tmps)=true then Oper.wp P o a w K0 Q else E:=by
 rw [if_pos hw];obtain ⟨v',w',hr,h2,h3,h4⟩:=run_bytes_any (P:=P) t o.type base e i ht hi hz hsize hby v n xs hown p m c bs hb hl hsum hbase;exact Lib.wp_append_run w s x t t ho v (.slice p m c) hs hx v' w' hr (h v' w' h2 h3 h4)
end Go.Proofs.Ytfpoipamioaklaa.Byt
end
section
namespace Go.Proofs.Ytfpoipamioaklaa.Byt
open Go.ChangeShapes Go.WideShapes Go.ChangeAt Go.RowKit Base Txt Block Rec Go.Lib
set_option linter.unusedVariables false
theorem nums_append (a b:List UInt8):nums (a++b)=nums a++nums b:=by unfold nums;rw [List.map_append]
theorem step_own {w:World} {ops:Array Oper} {o:Oper} {a:Act} {K0:Act → World → Prop} {Q:Exit → Act → World → Prop} {E:Prop} (hw:Region.wanted o (yielded ops a.tmps)=true) (s x:Operand)
 (ho:o.op=.call { callee:=.builtin .append,args:=#[s,x],argTypes:=#[32,32] })
 (base:Nat) (v:Value) (n:Nat) (xs:List UInt8) (hs:a.eval s=v) (hown:OwnB w base v n xs)
 (p:Option Addr) (m c:Nat) (bs:List UInt8) (hx:a.eval x=.slice p m c) (hb:BAt w p m bs) (hl:bs.length=m) (hsum:n+m≤140737488351232) (hbase:base≤w.heap.size)
 (h:∀ v' w',OwnB w' base v' (n+m) (xs++bs) → w.grownBy w' v.ownBlock → K0 (a.put o.dst v') w') :
 if Region.wanted o (yielded ops a.tmps)=true then Oper.wp Try.prog o a w K0 Q else E:=by
 obtain ⟨i0,hi,hz0,hz1,hz2⟩:=info_parts infoU8;refine step_bytes hw s x 32 ho base 5 i0 Try.underlying32 hi hz0 hz1 hz2 v n (nums xs) hs hown p m c bs hx hb hl hsum hbase (fun v' w' h1 h2 _ => h v' w' ?_ h2)
 unfold OwnB;rw [nums_append];exact h1
theorem append_own {w:World} {ops:Array Oper} {rest:List Oper} {o:Oper} {a:Act} {Q:Exit → Act → World → Prop} (hgd:o.guard=none) (s x:Operand)
 (ho:o.op=.call { callee:=.builtin .append,args:=#[s,x],argTypes:=#[32,32] })
 (base:Nat) (v:Value) (n:Nat) (xs:List UInt8) (hs:a.eval s=v) (hown:OwnB w base v n xs)
 (p:Option Addr) (m c:Nat) (bs:List UInt8) (hx:a.eval x=.slice p m c) (hb:BAt w p m bs) (hl:bs.length=m) (hsum:n+m≤140737488351232) (hbase:base≤w.heap.size)
 (h:∀ v' w',OwnB w' base v' (n+m) (xs++bs) → w.grownBy w' v.ownBlock → wpList Try.prog ops Q rest (a.put o.dst v') w'):wpList Try.prog ops Q (o :: rest) a w:=by
 obtain ⟨i0,hi,hz0,hz1,hz2⟩:=info_parts infoU8;refine append_bytes hgd s x 32 ho base 5 i0 Try.underlying32 hi hz0 hz1 hz2 v n (nums xs) hs hown p m c bs hx hb hl hsum hbase (fun v' w' h1 h2 => h v' w' ?_ h2)
 unfold OwnB;rw [nums_append];exact h1
end Go.Proofs.Ytfpoipamioaklaa.Byt
end
