/- Merged. -/
import Derived.Test.YtdhibldkldlfpaaGreatDoorEmitSortedX12
import Derived.Deep.DeepAppendRoom
namespace Go.Proofs.YtdhibldkldlfpaaGreatDoor
set_option linter.unusedVariables false
namespace bM
open Go.ChangeShapes Go.WideShapes Go.ChangeAt Go.RowKit Base Go.Lib
variable {P:Program} {w:World}
def ff (w:World) (v v':Value):Prop:=∀k,v'.ownBlock=some k→v.ownBlock=some k∨w.heap.size≤k
theorem ff.refl (w:World) (v:Value):ff w v v:=fun _ h=>Or.inl h
theorem ff.trans {w':World} {v v' MY:Value} (h:ff w v v') (h':ff w' v' MY) (hs:w.heap.size≤w'.heap.size):ff w v MY:=fun k hk=>by
 rcases h' k hk with h1|h1
 ·exact h k h1
 ·exact Or.inr (by omega)
theorem ua (base:Nat) (t ty e:TypeId) (i:TypeInfo) (z:Value) (bytes:Nat) (ht:P.underlying t=some (.slice e)) (hi:P.info? e=some i) (hz:i.zero=some z)
 (eU:i.size=1) (rp:i.bytes=bytes) (RD:z.cells.size=1)
 (v:Value) (n:Nat) (xs:List Value) (bt:w.ownsRow base e 1 v n xs)
 (a:Addr) (m c:Nat) (news:List Value) (hl:news.length=m*1) (oK:∀j u,news[j]? =some u→w.cell? (a.add j)=some u) (h1:∀u∈news,u.oneCell'=true)
 (QK:n+m≤maxLen) (jc:(n+m)*bytes≤140737488355328) (fx:base≤w.heap.size):
 ∃v' w',(Builtin.append_ #[t,t] ty #[v,.slice (some a) m c]).run P w=.ok v' w'∧w'.ownsRow base e 1 v' (n+m) (xs++news)∧w.grownBy w' v.ownBlock∧ff w v v':=by
 obtain⟨v',w',B,G,H,M⟩:=run_append_own (P:=P) w base t ty e i z 1 bytes ht hi hz eU rp RD (by decide) v n xs bt a m c news hl oK h1 QK jc fx;refine⟨v',w',B,G,H,?_⟩;have D:=bt;rcases bt.2 with⟨rfl,rfl⟩|⟨g,cap,cur,rfl,hbg,hg,Hc,Q0,hcs,UO⟩
 ·have I:xs=[]:=List.eq_nil_of_length_eq_zero (by simpa using bt.1)
  subst I;obtain⟨v2,L,A,E,_,_⟩:=run_append_own (P:=P) w w.heap.size t ty e i z 1 bytes ht hi hz eU rp RD (by decide) _ 0 [] (World.ownsRow_nil w w.heap.size e 1) a m c news hl oK h1 QK jc (Qk _);rw[B]at A
  cases A
  exact fun k hk=>Or.inr (E.lt k hk).1
 ·by_cases J:n+m≤cap
  ·obtain⟨L,A,_,_⟩:=run_append_own_spare (P:=P) w base t ty e i 1 ht hi eU g n cap xs D a m c news hl oK h1 J
   rw[B]at A
   cases A
   exact fun k hk=>Or.inl hk
  ·have holds:∀j u,xs[j]? =some u→w.cell? ((⟨g,0,none⟩:Addr).add j)=some u:=D.cells (g:=g) rfl
   have A:=run_append_grow (P:=P) w t ty e i z ht hi hz ⟨g,0,none⟩ n cap xs (by rw[eU];exact D.1) holds a m c news (by rw[eU];exact hl) oK (by omega) (by unfold maxLen at QK;omega) (growslice_fits (by omega) (by rw[rp];exact jc));rw[B]at A
   cases A
   exact fun k hk=>Or.inr (by simp[Value.ownBlock]at hk;omega)
theorem pD {ops:Array Oper} {rest:List Oper} {o:Oper} {a:Act} {Q:Exit→Act→World→Prop} (uF:o.guard=none) (s x:Operand) (t:TypeId)
 (ho:o.op=.call {callee:=.builtin .append,args:=#[s,x],argTypes:=#[t,t]})
 (base:Nat) (e:TypeId) (i:TypeInfo) (ht:P.underlying t=some (.slice e)) (hi:P.info? e=some i) (hz:i.zero=some (.int .u8 0)) (eU:i.size=1) (rp:i.bytes=1)
 (v:Value) (n:Nat) (xs:List Int) (hs:a.eval s=v) (bt:w.ownsRow base e 1 v n (xs.map (Value.int .u8)))
 (p:Option Addr) (m c:Nat) (bs:List UInt8) (hx:a.eval x=.slice p m c) (hb:cD w p m bs) (hl:bs.length=m) (lT:n+m≤140737488351232) (fx:base≤w.heap.size)
 (h:∀v' w',w'.ownsRow base e 1 v' (n+m) ((xs++nums bs).map (Value.int .u8))→w.grownBy w' v.ownBlock→ff w v v'→wpList P ops Q rest (a.put o.dst v') w'):wpList P ops Q (o::rest) a w:=by
 rcases p with _|ad
 ·have hm:m=0:=by
   rcases Nat.eq_zero_or_pos m with h0|h0
   ·exact h0
   ·obtain⟨_,_,he,_⟩:=hb h0
    cases he
  subst hm;obtain rfl:bs=[]:=List.eq_nil_of_length_eq_zero hl
  have E:(Builtin.append_ #[t,t] o.type #[v,.slice none 0 c]).run P w=.ok v w:=by
   rcases bt.2 with⟨rfl,rfl⟩|⟨g,cap,cur,rfl,_,_,Hc,_⟩
   ·simp[Builtin.append_,run_underlying ht,sizeOf,typeInfo,hi,Builtin.lenOf,Builtin.firstCells]
   ·simp[Builtin.append_,run_underlying ht,sizeOf,typeInfo,hi,Builtin.lenOf,Builtin.firstCells,Hc,storeCells]
  refine wpList_plain uF fun K A=>?_
  unfold Oper.wp;simp[execOp,ho,resolve,invoke,builtin,hs,hx,E,Result.andThen];exact A _ _ (h v w (by simpa [nums]using bt) (World.grownBy.refl w _) (ff.refl w v))
 ·obtain⟨v',w',I,D,G,H⟩:=ua (P:=P) base t o.type e i (.int .u8 0) 1 ht hi hz eU rp rfl v n (xs.map (Value.int .u8)) bt ad m c ((nums bs).map (Value.int .u8)) (by rw[Qi,fA,hl];omega) (by
   intro j u B
   have J:j<m:=by
    have:=(List.getElem?_eq_some_iff.1 B).1;rw[Qi,fA,hl]at this;exact this
   obtain⟨b,off,he,hc⟩:=hb (by omega)
   cases he
   rw[o6 bs j (by omega)]at B
   cases B
   rw[WideShapes.add_plain]
   exact hc j J) (ints_oneCell .u8 _) (by unfold maxLen;omega) (by omega) fx
  refine wpList_plain uF fun K A=>?_
  unfold Oper.wp;simp[execOp,ho,resolve,invoke,builtin,hs,hx,I,Result.andThen];rw[←List.map_append]at D;exact A _ _ (h v' w' D G H)
theorem Fh (n:Nat):(madeCells #[Value.int .u8 0] n).toList=(nums (List.replicate n 0)).map (Value.int .u8):=by
 rw[toList_madeCells_one,nums,List.map_replicate,List.map_replicate];rfl
end bM
end Go.Proofs.YtdhibldkldlfpaaGreatDoor
