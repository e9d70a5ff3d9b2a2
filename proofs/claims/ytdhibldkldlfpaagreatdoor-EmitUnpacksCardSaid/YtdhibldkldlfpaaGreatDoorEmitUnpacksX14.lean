/- Merged. -/
import Derived.Test.YtdhibldkldlfpaaGreatDoorEmitUnpacksX12
import Derived.Deep.DeepAppendRoom
namespace Go.Proofs.YtdhibldkldlfpaaGreatDoor
set_option linter.unusedVariables false
namespace cb
open Go.ChangeShapes Go.WideShapes Go.ChangeAt Go.RowKit Base Go.Lib
variable {P:Program} {w:World}
def jX (w:World) (v v':Value):Prop:=∀k,v'.ownBlock=some k→v.ownBlock=some k∨w.heap.size≤k
theorem jX.refl (w:World) (v:Value):jX w v v:=fun _ h=>Or.inl h
theorem jX.trans {w':World} {v v' Xa:Value} (h:jX w v v') (h':jX w' v' Xa) (hs:w.heap.size≤w'.heap.size):jX w v Xa:=fun k hk=>by
 rcases h' k hk with h1|h1
 ·exact h k h1
 ·exact Or.inr (by omega)
theorem Dt (base:Nat) (t ty e:TypeId) (i:TypeInfo) (z:Value) (bytes:Nat) (ht:P.underlying t=some (.slice e)) (hi:P.info? e=some i) (hz:i.zero=some z)
 (kl:i.size=1) (sa:i.bytes=bytes) (Yl:z.cells.size=1)
 (v:Value) (n:Nat) (xs:List Value) (aK:w.ownsRow base e 1 v n xs)
 (a:Addr) (m c:Nat) (news:List Value) (hl:news.length=m*1) (uG:∀j u,news[j]? =some u→w.cell? (a.add j)=some u) (h1:∀u∈news,u.oneCell'=true)
 (XY:n+m≤maxLen) (tw:(n+m)*bytes≤140737488355328) (jx:base≤w.heap.size):
 ∃v' w',(Builtin.append_ #[t,t] ty #[v,.slice (some a) m c]).run P w=.ok v' w'∧w'.ownsRow base e 1 v' (n+m) (xs++news)∧w.grownBy w' v.ownBlock∧jX w v v':=by
 obtain⟨v',w',B,H,I,M⟩:=run_append_own (P:=P) w base t ty e i z 1 bytes ht hi hz kl sa Yl (by decide) v n xs aK a m c news hl uG h1 XY tw jx;refine⟨v',w',B,H,I,?_⟩;have E:=aK;rcases aK.2 with⟨rfl,rfl⟩|⟨g,cap,cur,rfl,Ul,hg,Jo,Bu,hcs,aq6⟩
 ·have J:xs=[]:=List.eq_nil_of_length_eq_zero (by simpa using aK.1)
  subst J;obtain⟨v2,L,A,D,_,_⟩:=run_append_own (P:=P) w w.heap.size t ty e i z 1 bytes ht hi hz kl sa Yl (by decide) _ 0 [] (World.ownsRow_nil w w.heap.size e 1) a m c news hl uG h1 XY tw (Qk _);rw[B]at A
  cases A
  exact fun k hk=>Or.inr (D.lt k hk).1
 ·by_cases G:n+m≤cap
  ·obtain⟨L,A,_,_⟩:=run_append_own_spare (P:=P) w base t ty e i 1 ht hi kl g n cap xs E a m c news hl uG h1 G
   rw[B]at A
   cases A
   exact fun k hk=>Or.inl hk
  ·have holds:∀j u,xs[j]? =some u→w.cell? ((⟨g,0,none⟩:Addr).add j)=some u:=E.cells (g:=g) rfl
   have A:=run_append_grow (P:=P) w t ty e i z ht hi hz ⟨g,0,none⟩ n cap xs (by rw[kl];exact E.1) holds a m c news (by rw[kl];exact hl) uG (by omega) (by unfold maxLen at XY;omega) (growslice_fits (by omega) (by rw[sa];exact tw));rw[B]at A
   cases A
   exact fun k hk=>Or.inr (by simp[Value.ownBlock]at hk;omega)
theorem yU {ops:Array Oper} {rest:List Oper} {o:Oper} {a:Act} {Q:Exit→Act→World→Prop} (vI:o.guard=none) (s x:Operand) (t:TypeId)
 (ho:o.op=.call {callee:=.builtin .append,args:=#[s,x],argTypes:=#[t,t]})
 (base:Nat) (e:TypeId) (i:TypeInfo) (ht:P.underlying t=some (.slice e)) (hi:P.info? e=some i) (hz:i.zero=some (.int .u8 0)) (kl:i.size=1) (sa:i.bytes=1)
 (v:Value) (n:Nat) (xs:List Int) (hs:a.eval s=v) (aK:w.ownsRow base e 1 v n (xs.map (Value.int .u8)))
 (p:Option Addr) (m c:Nat) (bs:List UInt8) (hx:a.eval x=.slice p m c) (hb:iC w p m bs) (hl:bs.length=m) (qy:n+m≤140737488351232) (jx:base≤w.heap.size)
 (h:∀v' w',w'.ownsRow base e 1 v' (n+m) ((xs++nums bs).map (Value.int .u8))→w.grownBy w' v.ownBlock→jX w v v'→wpList P ops Q rest (a.put o.dst v') w'):wpList P ops Q (o::rest) a w:=by
 rcases p with _|ad
 ·have hm:m=0:=by
   rcases Nat.eq_zero_or_pos m with h0|h0
   ·exact h0
   ·obtain⟨_,_,he,_⟩:=hb h0
    cases he
  subst hm;obtain rfl:bs=[]:=List.eq_nil_of_length_eq_zero hl
  have J:(Builtin.append_ #[t,t] o.type #[v,.slice none 0 c]).run P w=.ok v w:=by
   rcases aK.2 with⟨rfl,rfl⟩|⟨g,cap,cur,rfl,_,_,Jo,_⟩
   ·simp[Builtin.append_,run_underlying ht,sizeOf,typeInfo,hi,Builtin.lenOf,Builtin.firstCells]
   ·simp[Builtin.append_,run_underlying ht,sizeOf,typeInfo,hi,Builtin.lenOf,Builtin.firstCells,Jo,storeCells]
  refine wpList_plain vI fun K A=>?_
  unfold Oper.wp;simp[execOp,ho,resolve,invoke,builtin,hs,hx,J,Result.andThen];exact A _ _ (h v w (by simpa [nums]using aK) (World.grownBy.refl w _) (jX.refl w v))
 ·obtain⟨v',w',I,D,G,H⟩:=Dt (P:=P) base t o.type e i (.int .u8 0) 1 ht hi hz kl sa rfl v n (xs.map (Value.int .u8)) aK ad m c ((nums bs).map (Value.int .u8)) (by rw[Qi,od,hl];omega) (by
   intro j u B
   have E:j<m:=by
    have:=(List.getElem?_eq_some_iff.1 B).1;rw[Qi,od,hl]at this;exact this
   obtain⟨b,off,he,hc⟩:=hb (by omega)
   cases he
   rw[yv bs j (by omega)]at B
   cases B
   rw[WideShapes.add_plain]
   exact hc j E) (ints_oneCell .u8 _) (by unfold maxLen;omega) (by omega) jx
  refine wpList_plain vI fun K A=>?_
  unfold Oper.wp;simp[execOp,ho,resolve,invoke,builtin,hs,hx,I,Result.andThen];rw[←List.map_append]at D;exact A _ _ (h v' w' D G H)
theorem OX (n:Nat):(madeCells #[Value.int .u8 0] n).toList=(nums (List.replicate n 0)).map (Value.int .u8):=by
 rw[toList_madeCells_one,nums,List.map_replicate,List.map_replicate];rfl
end cb
end Go.Proofs.YtdhibldkldlfpaaGreatDoor
