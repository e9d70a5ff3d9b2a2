/- Merged. -/
import Derived.Test.YtdhibldkldlfpaaGreatDoorEmitLeastX12
import Derived.Deep.DeepAppendRoom
namespace Go.Proofs.YtdhibldkldlfpaaGreatDoor
set_option linter.unusedVariables false
namespace bJ
open Go.ChangeShapes Go.WideShapes Go.ChangeAt Go.RowKit Base Go.Lib
variable {P:Program} {w:World}
def eW (w:World) (v v':Value):Prop:=∀k,v'.ownBlock=some k→v.ownBlock=some k∨w.heap.size≤k
theorem eW.refl (w:World) (v:Value):eW w v v:=fun _ h=>Or.inl h
theorem eW.trans {w':World} {v v' ME:Value} (h:eW w v v') (h':eW w' v' ME) (hs:w.heap.size≤w'.heap.size):eW w v ME:=fun k hk=>by
 rcases h' k hk with h1|h1
 ·exact h k h1
 ·exact Or.inr (by omega)
theorem tS (base:Nat) (t ty e:TypeId) (i:TypeInfo) (z:Value) (bytes:Nat) (ht:P.underlying t=some (.slice e)) (hi:P.info? e=some i) (hz:i.zero=some z)
 (eO:i.size=1) (uu:i.bytes=bytes) (Rb:z.cells.size=1)
 (v:Value) (n:Nat) (xs:List Value) (bh:w.ownsRow base e 1 v n xs)
 (a:Addr) (m c:Nat) (news:List Value) (hl:news.length=m*1) (oF:∀j u,news[j]? =some u→w.cell? (a.add j)=some u) (h1:∀u∈news,u.oneCell'=true)
 (Qv:n+m≤maxLen) (kG:(n+m)*bytes≤140737488355328) (ft:base≤w.heap.size):
 ∃v' w',(Builtin.append_ #[t,t] ty #[v,.slice (some a) m c]).run P w=.ok v' w'∧w'.ownsRow base e 1 v' (n+m) (xs++news)∧w.grownBy w' v.ownBlock∧eW w v v':=by
 obtain⟨v',w',B,G,H,M⟩:=run_append_own (P:=P) w base t ty e i z 1 bytes ht hi hz eO uu Rb (by decide) v n xs bh a m c news hl oF h1 Qv kG ft;refine⟨v',w',B,G,H,?_⟩;have D:=bh;rcases bh.2 with⟨rfl,rfl⟩|⟨g,cap,cur,rfl,hbg,hg,GY,QH,hcs,Uq⟩
 ·have I:xs=[]:=List.eq_nil_of_length_eq_zero (by simpa using bh.1)
  subst I;obtain⟨v2,L,A,E,_,_⟩:=run_append_own (P:=P) w w.heap.size t ty e i z 1 bytes ht hi hz eO uu Rb (by decide) _ 0 [] (World.ownsRow_nil w w.heap.size e 1) a m c news hl oF h1 Qv kG (Qk _);rw[B]at A
  cases A
  exact fun k hk=>Or.inr (E.lt k hk).1
 ·by_cases J:n+m≤cap
  ·obtain⟨L,A,_,_⟩:=run_append_own_spare (P:=P) w base t ty e i 1 ht hi eO g n cap xs D a m c news hl oF h1 J
   rw[B]at A
   cases A
   exact fun k hk=>Or.inl hk
  ·have holds:∀j u,xs[j]? =some u→w.cell? ((⟨g,0,none⟩:Addr).add j)=some u:=D.cells (g:=g) rfl
   have A:=run_append_grow (P:=P) w t ty e i z ht hi hz ⟨g,0,none⟩ n cap xs (by rw[eO];exact D.1) holds a m c news (by rw[eO];exact hl) oF (by omega) (by unfold maxLen at Qv;omega) (growslice_fits (by omega) (by rw[uu];exact kG));rw[B]at A
   cases A
   exact fun k hk=>Or.inr (by simp[Value.ownBlock]at hk;omega)
theorem pr {ops:Array Oper} {rest:List Oper} {o:Oper} {a:Act} {Q:Exit→Act→World→Prop} (rH:o.guard=none) (s x:Operand) (t:TypeId)
 (ho:o.op=.call {callee:=.builtin .append,args:=#[s,x],argTypes:=#[t,t]})
 (base:Nat) (e:TypeId) (i:TypeInfo) (ht:P.underlying t=some (.slice e)) (hi:P.info? e=some i) (hz:i.zero=some (.int .u8 0)) (eO:i.size=1) (uu:i.bytes=1)
 (v:Value) (n:Nat) (xs:List Int) (hs:a.eval s=v) (bh:w.ownsRow base e 1 v n (xs.map (Value.int .u8)))
 (p:Option Addr) (m c:Nat) (bs:List UInt8) (hx:a.eval x=.slice p m c) (hb:cB w p m bs) (hl:bs.length=m) (lQ:n+m≤140737488351232) (ft:base≤w.heap.size)
 (h:∀v' w',w'.ownsRow base e 1 v' (n+m) ((xs++nums bs).map (Value.int .u8))→w.grownBy w' v.ownBlock→eW w v v'→wpList P ops Q rest (a.put o.dst v') w'):wpList P ops Q (o::rest) a w:=by
 rcases p with _|ad
 ·have hm:m=0:=by
   rcases Nat.eq_zero_or_pos m with h0|h0
   ·exact h0
   ·obtain⟨_,_,he,_⟩:=hb h0
    cases he
  subst hm;obtain rfl:bs=[]:=List.eq_nil_of_length_eq_zero hl
  have E:(Builtin.append_ #[t,t] o.type #[v,.slice none 0 c]).run P w=.ok v w:=by
   rcases bh.2 with⟨rfl,rfl⟩|⟨g,cap,cur,rfl,_,_,GY,_⟩
   ·simp[Builtin.append_,run_underlying ht,sizeOf,typeInfo,hi,Builtin.lenOf,Builtin.firstCells]
   ·simp[Builtin.append_,run_underlying ht,sizeOf,typeInfo,hi,Builtin.lenOf,Builtin.firstCells,GY,storeCells]
  refine wpList_plain rH fun K A=>?_
  unfold Oper.wp;simp[execOp,ho,resolve,invoke,builtin,hs,hx,E,Result.andThen];exact A _ _ (h v w (by simpa [nums]using bh) (World.grownBy.refl w _) (eW.refl w v))
 ·obtain⟨v',w',I,D,G,H⟩:=tS (P:=P) base t o.type e i (.int .u8 0) 1 ht hi hz eO uu rfl v n (xs.map (Value.int .u8)) bh ad m c ((nums bs).map (Value.int .u8)) (by rw[Qi,fw,hl];omega) (by
   intro j u B
   have J:j<m:=by
    have:=(List.getElem?_eq_some_iff.1 B).1;rw[Qi,fw,hl]at this;exact this
   obtain⟨b,off,he,hc⟩:=hb (by omega)
   cases he
   rw[oU bs j (by omega)]at B
   cases B
   rw[WideShapes.add_plain]
   exact hc j J) (ints_oneCell .u8 _) (by unfold maxLen;omega) (by omega) ft
  refine wpList_plain rH fun K A=>?_
  unfold Oper.wp;simp[execOp,ho,resolve,invoke,builtin,hs,hx,I,Result.andThen];rw[←List.map_append]at D;exact A _ _ (h v' w' D G H)
theorem EY (n:Nat):(madeCells #[Value.int .u8 0] n).toList=(nums (List.replicate n 0)).map (Value.int .u8):=by
 rw[toList_madeCells_one,nums,List.map_replicate,List.map_replicate];rfl
end bJ
end Go.Proofs.YtdhibldkldlfpaaGreatDoor
