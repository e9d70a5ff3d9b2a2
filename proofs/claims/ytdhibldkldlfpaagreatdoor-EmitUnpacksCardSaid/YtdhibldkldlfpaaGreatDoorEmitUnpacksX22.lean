/- Merged. -/
import Derived.Test.YtdhibldkldlfpaaGreatDoorEmitUnpacksX12
import Derived.Sort.KeysCollected
namespace Go.Proofs.YtdhibldkldlfpaaGreatDoor
set_option linter.unusedVariables false
namespace Mk
open Go.ChangeShapes Go.WideShapes Go.ChangeAt Go.RowKit Go.MapKept Go.WideElems Base cb iK
def pF (e:MapEntry):List UInt8:=match e.key with|.string s=>s.data.toList|_=>[]
theorem Cz {e:MapEntry} {x:List UInt8} (h:e.key=.string (str x)):pF e=x:=by
 unfold pF;rw[h];exact aS x
def xM (v:Value):Option (DataW Unit × List MemPlace):=some (.nil,[])
theorem Rp {P:Program} {k:TypeId} (hk:P.underlying k=some .string) {w:World} {B:Nat} {f:List UInt8→Option Value} (h:jj p8 w B f) (hlen:∀x v,f x=some v→x.length≤maxLen) (ks:List (List UInt8)) (hnd:ks.Nodup) (uh:∀x,x∈ks↔(f x).isSome=true) (hsz:ks.length≤maxLen):
 ∃D:DataW Unit,w.ownsMap P k xM B ks.length D∧(strKeys D).Perm ks∧Maps.size D=ks.length:=by
 obtain⟨es,clock,V,hs,h1,T⟩:=h
 have G:∀e∈es.toList,e.key=.string (str (pF e))∧f (pF e)=some e.val:=fun e he=>by
  obtain⟨x,L,hf⟩:=h1 e he;have E:e.key=.string (str x):=L;have:pF e=x:=Cz E;rw[this];exact⟨E,hf⟩
 have I:(es.toList.map pF).Nodup:=by
  have N:=hs.2.2
  have e:es.toList.map (·.key)=(es.toList.map pF).map (fun x=>Value.string (str x)):=by
   rw[List.map_map];exact List.map_congr_left fun e he=>(G e he).1
  rw[e]at N;have U:(es.toList.map pF).Pairwise fun a b=>(Value.string (str a))≠Value.string (str b):=(List.pairwise_map (f:=fun x=>Value.string (str x))).1 N
  exact U.imp fun R e=>R (by rw[e])
 have O:(es.toList.map pF).Perm ks:=by
  refine(List.perm_ext_iff_of_nodup I hnd).2 fun x=>?_
  rw[uh,List.mem_map];constructor
  ·rintro⟨e,he,rfl⟩
   rw[(G e he).2];rfl
  ·intro L
   obtain⟨v,W⟩:=Option.isSome_iff_exists.1 L;obtain⟨e,he,J⟩:=T x v W;refine⟨e,he,?_⟩;have H:e.key=.string (str x):=J;exact Cz H
 have M:es.size=ks.length:=by rw[←O.length_eq,Qi,Array.length_toList]
 have A:∀e∈es.toList,rd P k xM e=some (.string (pF e),.nil):=fun e he=>by
  have hl:=hlen _ _ (G e he).2;rw[rd,(G e he).1,Go.WideMaps.keyOf_string_mk hk (by rw[ax];exact hl),aS];rfl
 refine⟨.map ((es.toList.map (rg P k xM)).foldr DataW.insert []),⟨es,clock,V,⟨by rw[M];exact hsz,hs,fun e he=>⟨_,A e he⟩⟩,by omega,rfl⟩,?_,?_⟩
 ·refine List.Perm.trans ?_ O
  show List.Perm (((es.toList.map (rg P k xM)).foldr DataW.insert []).map fun p=>strOf p.1) _;refine((WideShapes.sorted_perm _).map _).trans ?_;rw[List.map_map];refine List.Perm.of_eq (List.map_congr_left fun e he=>?_);simp only[Function.comp,rg,A e he,Option.getD_some,strOf]
 ·show((es.toList.map (rg P k xM)).foldr DataW.insert []).length=_
  rw[(WideShapes.sorted_perm _).length_eq,Qi,Array.length_toList,M]
end Mk
end Go.Proofs.YtdhibldkldlfpaaGreatDoor
