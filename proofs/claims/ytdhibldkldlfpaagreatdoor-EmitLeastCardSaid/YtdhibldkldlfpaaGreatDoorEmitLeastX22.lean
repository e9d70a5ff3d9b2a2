/- Merged. -/
import Derived.Test.YtdhibldkldlfpaaGreatDoorEmitLeastX12
import Derived.Sort.KeysCollected
namespace Go.Proofs.YtdhibldkldlfpaaGreatDoor
set_option linter.unusedVariables false
namespace Mk
open Go.ChangeShapes Go.WideShapes Go.ChangeAt Go.RowKit Go.MapKept Go.WideElems Base bJ cn
def gK (e:MapEntry):List UInt8:=match e.key with|.string s=>s.data.toList|_=>[]
theorem sW {e:MapEntry} {x:List UInt8} (h:e.key=.string (str x)):gK e=x:=by
 unfold gK;rw[h];exact bg x
def oe (v:Value):Option (DataW Unit × List MemPlace):=some (.nil,[])
theorem Hj {P:Program} {k:TypeId} (hk:P.underlying k=some .string) {w:World} {B:Nat} {f:List UInt8→Option Value} (h:cF ik w B f) (hlen:∀x v,f x=some v→x.length≤maxLen) (ks:List (List UInt8)) (hnd:ks.Nodup) (ng:∀x,x∈ks↔(f x).isSome=true) (hsz:ks.length≤maxLen):
 ∃D:DataW Unit,w.ownsMap P k oe B ks.length D∧(strKeys D).Perm ks∧Maps.size D=ks.length:=by
 obtain⟨es,clock,V,hs,h1,T⟩:=h
 have G:∀e∈es.toList,e.key=.string (str (gK e))∧f (gK e)=some e.val:=fun e he=>by
  obtain⟨x,I,hf⟩:=h1 e he;have E:e.key=.string (str x):=I;have:gK e=x:=sW E;rw[this];exact⟨E,hf⟩
 have O:(es.toList.map gK).Nodup:=by
  have M:=hs.2.2
  have e:es.toList.map (·.key)=(es.toList.map gK).map (fun x=>Value.string (str x)):=by
   rw[List.map_map];exact List.map_congr_left fun e he=>(G e he).1
  rw[e]at M;have U:(es.toList.map gK).Pairwise fun a b=>(Value.string (str a))≠Value.string (str b):=(List.pairwise_map (f:=fun x=>Value.string (str x))).1 M
  exact U.imp fun N e=>N (by rw[e])
 have L:(es.toList.map gK).Perm ks:=by
  refine(List.perm_ext_iff_of_nodup O hnd).2 fun x=>?_
  rw[ng,List.mem_map];constructor
  ·rintro⟨e,he,rfl⟩
   rw[(G e he).2];rfl
  ·intro I
   obtain⟨v,W⟩:=Option.isSome_iff_exists.1 I;obtain⟨e,he,H⟩:=T x v W;refine⟨e,he,?_⟩;have R:e.key=.string (str x):=H;exact sW R
 have J:es.size=ks.length:=by rw[←L.length_eq,Qi,Array.length_toList]
 have A:∀e∈es.toList,rd P k oe e=some (.string (gK e),.nil):=fun e he=>by
  have hl:=hlen _ _ (G e he).2;rw[rd,(G e he).1,Go.WideMaps.keyOf_string_mk hk (by rw[aq];exact hl),bg];rfl
 refine⟨.map ((es.toList.map (rg P k oe)).foldr DataW.insert []),⟨es,clock,V,⟨by rw[J];exact hsz,hs,fun e he=>⟨_,A e he⟩⟩,by omega,rfl⟩,?_,?_⟩
 ·refine List.Perm.trans ?_ L
  show List.Perm (((es.toList.map (rg P k oe)).foldr DataW.insert []).map fun p=>strOf p.1) _;refine((WideShapes.sorted_perm _).map _).trans ?_;rw[List.map_map];refine List.Perm.of_eq (List.map_congr_left fun e he=>?_);simp only[Function.comp,rg,A e he,Option.getD_some,strOf]
 ·show((es.toList.map (rg P k oe)).foldr DataW.insert []).length=_
  rw[(WideShapes.sorted_perm _).length_eq,Qi,Array.length_toList,J]
end Mk
end Go.Proofs.YtdhibldkldlfpaaGreatDoor
