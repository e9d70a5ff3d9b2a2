/- Texts of this seat, merged: what the proof reaches. -/
import Derived.Test.YtfhelebejclalaaDoorLinksBackX6
import Derived.Maps.Own
import Derived.Sort.KeysCollected
import Derived.WideShapes
import Derived.StringKeys
namespace Go.Proofs.YtfhelebejclalaaDoor
namespace Base
end Base
namespace Byt
end Byt
namespace Txt
end Txt
end Go.Proofs.YtfhelebejclalaaDoor
section
namespace Go.Proofs.YtfhelebejclalaaDoor.Mk
open Go.ChangeShapes Go.WideShapes Go.ChangeAt Go.RowKit Go.MapKept Go.WideElems Base Byt Txt
set_option linter.unusedVariables false
def keyText (e:MapEntry):List UInt8:=match e.key with | .string s => s.data.toList | _ => []
theorem keyText_of {e:MapEntry} {x:List UInt8} (h:e.key=.string (str x)):keyText e=x:=by
 unfold keyText;rw [h];exact str_data x
def anyElem (v:Value):Option (DataW Unit × List MemPlace):=some (.nil,[])
theorem mapK_owns {P:Program} {k:TypeId} (hk:P.underlying k=some .string) {w:World} {B:Nat} {f:List UInt8 → Option Value} (h:MapK strK w B f) (hlen:∀ x v,f x=some v → x.length≤maxLen) (ks:List (List UInt8)) (hnd:ks.Nodup) (hks:∀ x,x ∈ ks ↔ (f x).isSome=true) (hsz:ks.length≤maxLen) :
 ∃ D:DataW Unit,w.ownsMap P k anyElem B ks.length D∧(strKeys D).Perm ks∧Maps.size D=ks.length:=by
 obtain ⟨es,clock,hb,hs,h1,h2⟩:=h
 have hkey:∀ e ∈ es.toList,e.key=.string (str (keyText e))∧f (keyText e)=some e.val:=fun e he => by
  obtain ⟨x,hx,hf⟩:=h1 e he;have hx':e.key=.string (str x):=hx;have:keyText e=x:=keyText_of hx';rw [this];exact ⟨hx',hf⟩
 have hnd':(es.toList.map keyText).Nodup:=by
  have hn:=hs.2.2
  have e:es.toList.map (·.key)=(es.toList.map keyText).map (fun x => Value.string (str x)):=by
   rw [List.map_map];exact List.map_congr_left fun e he => (hkey e he).1
  rw [e] at hn;have h3:(es.toList.map keyText).Pairwise fun a b => (Value.string (str a))≠Value.string (str b):=(List.pairwise_map (f:=fun x => Value.string (str x))).1 hn
  exact h3.imp fun hab e => hab (by rw [e])
 have hperm:(es.toList.map keyText).Perm ks:=by
  refine (List.perm_ext_iff_of_nodup hnd' hnd).2 fun x => ?_
  rw [hks,List.mem_map];constructor
  ·rintro ⟨e,he,rfl⟩
   rw [(hkey e he).2];rfl
  ·intro hx
   obtain ⟨v,hv⟩:=Option.isSome_iff_exists.1 hx;obtain ⟨e,he,hek⟩:=h2 x v hv;refine ⟨e,he,?_⟩;have hek':e.key=.string (str x):=hek;exact keyText_of hek'
 have hlen':es.size=ks.length:=by rw [← hperm.length_eq,List.length_map,Array.length_toList]
 have hrd:∀ e ∈ es.toList,rd P k anyElem e=some (.string (keyText e),.nil):=fun e he => by
  have hl:=hlen _ _ (hkey e he).2;rw [rd,(hkey e he).1,Go.WideMaps.keyOf_string_mk hk (by rw [str_size];exact hl),str_data]
  rfl
 refine ⟨.map ((es.toList.map (rg P k anyElem)).foldr DataW.insert []),⟨es,clock,hb,⟨by rw [hlen'];exact hsz,hs,fun e he => ⟨_,hrd e he⟩⟩,by omega,rfl⟩,?_,?_⟩
 ·refine List.Perm.trans ?_ hperm
  show List.Perm (((es.toList.map (rg P k anyElem)).foldr DataW.insert []).map fun p => strOf p.1) _
  refine ((WideShapes.sorted_perm _).map _).trans ?_
  rw [List.map_map];refine List.Perm.of_eq (List.map_congr_left fun e he => ?_)
  simp only [Function.comp,rg,hrd e he,Option.getD_some,strOf]
 ·show ((es.toList.map (rg P k anyElem)).foldr DataW.insert []).length=_
  rw [(WideShapes.sorted_perm _).length_eq,List.length_map,Array.length_toList,hlen']
end Go.Proofs.YtfhelebejclalaaDoor.Mk
end
