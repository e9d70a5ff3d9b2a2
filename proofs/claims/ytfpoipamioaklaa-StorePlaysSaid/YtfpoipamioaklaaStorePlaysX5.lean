/- Texts of this seat, merged: what the proof reaches. -/
import Derived.Test.YtfpoipamioaklaaStorePlaysX4
import Derived.Deep.DeepAppendRoom
namespace Go.Proofs.Ytfpoipamioaklaa
namespace Base
end Base
end Go.Proofs.Ytfpoipamioaklaa
section
namespace Go.Proofs.Ytfpoipamioaklaa.Byt
open Go.ChangeShapes Go.WideShapes Go.ChangeAt Go.RowKit Base Go.Lib
set_option linter.unusedVariables false
def NewOr (w:World) (v v':Value):Prop:=∀ k,v'.ownBlock=some k → v.ownBlock=some k ∨ w.heap.size≤k
theorem NewOr.refl (w:World) (v:Value):NewOr w v v:=fun _ h => Or.inl h
theorem NewOr.trans {w w':World} {v v' v'':Value} (h:NewOr w v v') (h':NewOr w' v' v'') (hs:w.heap.size≤w'.heap.size):NewOr w v v'':=fun k hk => by
 rcases h' k hk with h1 | h1
 ·exact h k h1
 ·exact Or.inr (by omega)
theorem run_append_new {P:Program} {w:World} (base:Nat) (t ty e:TypeId) (i:TypeInfo) (z:Value) (bytes:Nat) (ht:P.underlying t=some (.slice e)) (hi:P.info? e=some i) (hz:i.zero=some z)
 (hsize:i.size=1) (hby:i.bytes=bytes) (hzs:z.cells.size=1)
 (v:Value) (n:Nat) (xs:List Value) (hown:w.ownsRow base e 1 v n xs)
 (a:Addr) (m c:Nat) (news:List Value) (hl:news.length=m * 1) (hnews:∀ j u,news[j]? = some u → w.cell? (a.add j)=some u) (h1:∀ u ∈ news,u.oneCell'=true)
 (h63:n+m≤maxLen) (hbytes:(n+m) * bytes≤140737488355328) (hbase:base≤w.heap.size) :
 ∃ v' w',(Builtin.append_ #[t,t] ty #[v,.slice (some a) m c]).run P w=.ok v' w'∧w'.ownsRow base e 1 v' (n+m) (xs++news)∧w.grownBy w' v.ownBlock∧NewOr w v v':=by
 obtain ⟨v',w',hr,h2,h3,h4⟩:=run_append_own (P:=P) w base t ty e i z 1 bytes ht hi hz hsize hby hzs (by decide) v n xs hown a m c news hl hnews h1 h63 hbytes hbase
 refine ⟨v',w',hr,h2,h3,?_⟩;have hown':=hown;rcases hown.2 with ⟨rfl,rfl⟩ | ⟨g,cap,cur,rfl,hbg,hg,hnc,hcm,hcs,htake⟩
 ·have hx:xs=[]:=List.eq_nil_of_length_eq_zero (by simpa using hown.1)
  subst hx;obtain ⟨v2,w2,hr2,h22,_,_⟩:=run_append_own (P:=P) w w.heap.size t ty e i z 1 bytes ht hi hz hsize hby hzs (by decide) _ 0 [] (World.ownsRow_nil w w.heap.size e 1) a m c news hl hnews h1 h63 hbytes (Nat.le_refl _)
  rw [hr] at hr2
  cases hr2
  exact fun k hk => Or.inr (h22.lt k hk).1
 ·by_cases hroom:n+m≤cap
  ·obtain ⟨w2,hr2,_,_⟩:=run_append_own_spare (P:=P) w base t ty e i 1 ht hi hsize g n cap xs hown' a m c news hl hnews h1 hroom
   rw [hr] at hr2
   cases hr2
   exact fun k hk => Or.inl hk
  ·have holds:∀ j u,xs[j]? = some u → w.cell? ((⟨g,0,none⟩:Addr).add j)=some u:=hown'.cells (g:=g) rfl
   have hr2:=run_append_grow (P:=P) w t ty e i z ht hi hz ⟨g,0,none⟩ n cap xs (by rw [hsize];exact hown'.1) holds a m c news (by rw [hsize];exact hl) hnews (by omega) (by unfold maxLen at h63;omega) (growslice_fits (by omega) (by rw [hby];exact hbytes))
   rw [hr] at hr2
   cases hr2
   exact fun k hk => Or.inr (by simp [Value.ownBlock] at hk;omega)
end Go.Proofs.Ytfpoipamioaklaa.Byt
end
