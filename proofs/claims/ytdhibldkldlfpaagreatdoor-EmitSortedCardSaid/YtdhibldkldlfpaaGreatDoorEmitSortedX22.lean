/- Merged. -/
import Derived.Test.YtdhibldkldlfpaaGreatDoorEmitSortedX12
import Derived.Sort.KeysCollected
namespace Go.Proofs.YtdhibldkldlfpaaGreatDoor
set_option linter.unusedVariables false
namespace Mk
open Go.ChangeShapes Go.WideShapes Go.ChangeAt Go.RowKit Go.MapKept Go.WideElems Base bM cr
def gL (e:MapEntry):List UInt8:=match e.key with|.string s=>s.data.toList|_=>[]
theorem tg {e:MapEntry} {x:List UInt8} (h:e.key=.string (str x)):gL e=x:=by
 unfold gL;rw[h];exact bg x
def oo (v:Value):Option (DataW Unit × List MemPlace):=some (.nil,[])
theorem Hz {P:Program} {k:TypeId} (hk:P.underlying k=some .string) {w:World} {B:Nat} {f:List UInt8→Option Value} (h:cH im w B f) (hlen:∀x v,f x=some v→x.length≤maxLen) (ks:List (List UInt8)) (hnd:ks.Nodup) (nj:∀x,x∈ks↔(f x).isSome=true) (hsz:ks.length≤maxLen):
 ∃D:DataW Unit,w.ownsMap P k oo B ks.length D∧(strKeys D).Perm ks∧Maps.size D=ks.length:=by
 obtain⟨es,clock,V,hs,h1,T⟩:=h
 have E:∀e∈es.toList,e.key=.string (str (gL e))∧f (gL e)=some e.val:=fun e he=>by
  obtain⟨x,H,hf⟩:=h1 e he;have A:e.key=.string (str x):=H;have:gL e=x:=tg A;rw[this];exact⟨A,hf⟩
 have R:(es.toList.map gL).Nodup:=by
  have M:=hs.2.2
  have e:es.toList.map (·.key)=(es.toList.map gL).map (fun x=>Value.string (str x)):=by
   rw[List.map_map];exact List.map_congr_left fun e he=>(E e he).1
  rw[e]at M;have U:(es.toList.map gL).Pairwise fun a b=>(Value.string (str a))≠Value.string (str b):=(List.pairwise_map (f:=fun x=>Value.string (str x))).1 M
  exact U.imp fun N e=>N (by rw[e])
 have L:(es.toList.map gL).Perm ks:=by
  refine(List.perm_ext_iff_of_nodup R hnd).2 fun x=>?_
  rw[nj,List.mem_map];constructor
  ·rintro⟨e,he,rfl⟩
   rw[(E e he).2];rfl
  ·intro H
   obtain⟨v,W⟩:=Option.isSome_iff_exists.1 H;obtain⟨e,he,G⟩:=T x v W;refine⟨e,he,?_⟩;have O:e.key=.string (str x):=G;exact tg O
 have I:es.size=ks.length:=by rw[←L.length_eq,Qi,Array.length_toList]
 have J:∀e∈es.toList,rd P k oo e=some (.string (gL e),.nil):=fun e he=>by
  have hl:=hlen _ _ (E e he).2;rw[rd,(E e he).1,Go.WideMaps.keyOf_string_mk hk (by rw[au];exact hl),bg];rfl
 refine⟨.map ((es.toList.map (rg P k oo)).foldr DataW.insert []),⟨es,clock,V,⟨by rw[I];exact hsz,hs,fun e he=>⟨_,J e he⟩⟩,by omega,rfl⟩,?_,?_⟩
 ·refine List.Perm.trans ?_ L
  show List.Perm (((es.toList.map (rg P k oo)).foldr DataW.insert []).map fun p=>strOf p.1) _;refine((WideShapes.sorted_perm _).map _).trans ?_;rw[List.map_map];refine List.Perm.of_eq (List.map_congr_left fun e he=>?_);simp only[Function.comp,rg,J e he,Option.getD_some,strOf]
 ·show((es.toList.map (rg P k oo)).foldr DataW.insert []).length=_
  rw[(WideShapes.sorted_perm _).length_eq,Qi,Array.length_toList,I]
end Mk
end Go.Proofs.YtdhibldkldlfpaaGreatDoor
