/- Texts of this seat, merged: what the proof reaches. -/
import Derived.Test.YtfhelebejclalaaDoorLinksBackX5
import Derived.OpenShut
import Derived.ShutString
import Derived.Test.YtfhelebejclalaaDoorLinksBackX1
import Derived.Test.YtfhelebejclalaaDoorLinksBackX4
import Derived.Deep.Draws
import Derived.BigCall
import Derived.Shelf.RegionOpenPlain
namespace Go.Proofs.YtfhelebejclalaaDoor
namespace Base
end Base
namespace Byt
end Byt
namespace Txt
end Txt
end Go.Proofs.YtfhelebejclalaaDoor
section
namespace Go.Proofs.YtfhelebejclalaaDoor.Num
open Go.ChangeShapes Go.WideShapes Go.ChangeAt Go.RowKit Base
set_option linter.unusedVariables false
def inB (n l m:Int):Bool:=decide (l≤n∧n≤m)
theorem inB_true {n l m:Int} (h1:l≤n) (h2:n≤m):inB n l m=true:=by simp [inB,h1,h2]
theorem inB_false {n l m:Int} (h:¬ (l≤n∧n≤m)):inB n l m=false:=by simp only [inB,decide_eq_false_iff_not];exact h
theorem in_yes (n l m:Int) (w:World) (h1:l≤n) (h2:n≤m) :
 Calls Tryd.prog 58 #[.int .i64 n,.int .i64 l,.int .i64 m] w fun e w' => e=.returned (.bool true)∧w=w':=by
 go_enter Tryd.func58,Tryd.ntmps58
 go_wp2
 go_ret
 exact ⟨rfl,rfl⟩
theorem in_no (n l m:Int) (w:World) (h:¬ (l≤n∧n≤m)) :
 Calls Tryd.prog 58 #[.int .i64 n,.int .i64 l,.int .i64 m] w fun e w' => e=.returned (.bool false)∧w=w':=by
 by_cases h1:l≤n
 ·have h2:¬ n≤m:=fun h2 => h ⟨h1,h2⟩
  clear h
  go_enter Tryd.func58,Tryd.ntmps58
  go_wp2
  go_ret
  exact ⟨rfl,rfl⟩
 ·clear h
  go_enter Tryd.func58,Tryd.ntmps58
  go_wp2
  go_ret
  exact ⟨rfl,rfl⟩
theorem in_any (n l m:Int) (w:World) :
 Calls Tryd.prog 58 #[.int .i64 n,.int .i64 l,.int .i64 m] w fun e w' => e=.returned (.bool (inB n l m))∧w=w':=by
 by_cases h:l≤n∧n≤m
 ·rw [inB_true h.1 h.2];exact in_yes n l m w h.1 h.2
 ·rw [inB_false h];exact in_no n l m w h
end Go.Proofs.YtfhelebejclalaaDoor.Num
end
section
namespace Go.Proofs.YtfhelebejclalaaDoor.Path
open Go.ChangeShapes Go.WideShapes Go.ChangeAt Go.RowKit Go.Shelf Base Byt Txt Go.Lib
set_option linter.unusedVariables false
set_option maxRecDepth 100000
theorem join_any (c p:List UInt8) (w:World) (hm:c.length+p.length≤140737488351500) :
 Calls Tryd.prog 57 #[.string (str c),.string (str p)] w fun e w' => e=.returned (.string (str (joinP c p)))∧w=w':=by
 have hs:(str c).size+1+(str p).size≤9223372036854775807:=by rw [str_size,str_size];omega
 have hs1:(str c).size+1≤9223372036854775807:=by omega
 clear hm
 by_cases h1:p=[]
 ·have e:str (joinP c p)=str c:=by unfold joinP;rw [if_pos (.inl h1)]
  have b1:(str p).toList.isEmpty=true:=by rw [str_empty];simpa using h1
  rw [e];clear e h1
  go_enter Tryd.func57,Tryd.ntmps57
  go_wp2
  go_ret
  exact ⟨rfl,rfl⟩
 ·have b1:(str p).toList.isEmpty=false:=by rw [str_empty];simpa using h1
  by_cases h2:p=[46]
  ·have e:str (joinP c p)=str c:=by unfold joinP;rw [if_pos (.inr h2)]
   have b2:((str p).toList == [46])=true:=by rw [str_is];simpa using h2
   rw [e];clear e h1 h2
   go_enter Tryd.func57,Tryd.ntmps57
   go_wp2
   go_ret
   exact ⟨rfl,rfl⟩
  ·have b2:((str p).toList == [46])=false:=by rw [str_is];simpa using h2
   by_cases h3:c=[]
   ·have e:str (joinP c p)=str p:=by unfold joinP;rw [if_neg (by simp [h1,h2]),if_pos h3]
    have b3:(str c).toList.isEmpty=true:=by rw [str_empty];simpa using h3
    rw [e];clear e h1 h2 h3
    go_enter Tryd.func57,Tryd.ntmps57
    go_wp2
    go_ret
    exact ⟨rfl,rfl⟩
   ·have e:str c++⟨#[47]⟩++str p=str (joinP c p):=by
     unfold joinP;rw [if_neg (by simp [h1,h2]),if_neg h3,show (⟨#[47]⟩:ByteArray)=str [47] from rfl,str_app,str_app]
     simp
    have b3:(str c).toList.isEmpty=false:=by rw [str_empty];simpa using h3
    rw [← e];clear e h1 h2 h3
    go_enter Tryd.func57,Tryd.ntmps57
    go_wp2
    go_ret
    exact ⟨rfl,rfl⟩
theorem less_any (a b:List UInt8) (w:World) :
 Calls Tryd.prog 53 #[.string (str a),.string (str b)] w fun e w' => e=.returned (.bool (Op.bytesLess a b))∧w=w':=by
 rw [show Op.bytesLess a b=Op.bytesLess (str a).toList (str b).toList by rw [str_toList,str_toList]]
 go_enter Tryd.func53,Tryd.ntmps53
 go_wp2
 go_ret
 exact ⟨rfl,rfl⟩
def cutL (l:List UInt8):List UInt8 × List UInt8 × Bool:=
 if 0≤Lib.indexByte l 47 then (l.take (Lib.indexByte l 47).toNat,l.drop ((Lib.indexByte l 47).toNat+1),true) else (l,[],false)
theorem slCut_any (l:List UInt8) (w:World) (hm:l.length≤140737488351232) :
 Calls Tryd.prog 80 #[.string (str l),.string ⟨#[47]⟩] w fun e w' => e=.returned (.tuple #[.string (str (cutL l).1),.string (str (cutL l).2.1),.bool (cutL l).2.2]) ∧ ∃ n,w'=w.drewN n:=by
 have hidx:=Any.stringslite_Index_one Tryd.laysIndex (str l) 47 w;rw [str_data] at hidx;have hs:(str l).size=l.length:=str_size l;unfold cutL
 by_cases h:0≤Lib.indexByte l 47
 ·obtain ⟨k,hk⟩:∃ k:Nat,Lib.indexByte l 47=k:=⟨(Lib.indexByte l 47).toNat,by omega⟩
  have hlt:=(List.getElem?_eq_some_iff.1 (Lib.indexByte_some hk).1).1;rw [if_pos h,hk,Int.toNat_natCast];rw [hk] at hidx;clear h hk;simp only;have e1:(str l).extract 0 k=str (l.take k):=str_take l k;have e2:(str l).extract (k+1) (str l).size=str (l.drop (k+1)):=str_drop l (k+1) _ hs;rw [← e1,← e2];have c1:(0:Int)≤(k:Int):=by omega
  have c2:(k:Int)≤((str l).size:Int):=by omega
  have c3:(0:Int)≤(k:Int)+1:=by omega
  have c4:(k:Int)+1≤((str l).size:Int):=by omega
  have c5:((str l).size:Int)≤140737488351232:=by omega
  clear e1 e2;have mixed:Tryd.prog.follows .mixedOrders=true:=by kernel_rfl
  go_enter Tryd.func80,Tryd.ntmps80
  go_wp2_with (go_at_call 86;refine hidx.mono ?_;rintro e w' ⟨rfl,rfl⟩)
  go_region_o
  go_wp2
  go_ret3
  exact ⟨rfl,1,rfl⟩
 ·rw [if_neg h]
  have hn:Lib.indexByte l 47 = -1:=by have:=Lib.indexByte_ge l 47;omega
  rw [hn] at hidx;clear h hn
  go_enter Tryd.func80,Tryd.ntmps80
  go_wp2_with (go_at_call 86;refine hidx.mono ?_;rintro e w' ⟨rfl,rfl⟩)
  go_ret3
  exact ⟨rfl,0,rfl⟩
theorem cutSlash_any (l:List UInt8) (w:World) (hm:l.length≤140737488351232) :
 Calls Tryd.prog 67 #[.string (str l),.string ⟨#[47]⟩] w fun e w' => e=.returned (.tuple #[.string (str (cutL l).1),.string (str (cutL l).2.1),.bool (cutL l).2.2]) ∧ ∃ n,w'=w.drewN n:=by
 have hc:=slCut_any l w hm
 go_enter Tryd.func67,Tryd.ntmps67
 go_wp2_with (go_at_call 80;refine hc.mono ?_;rintro e w' ⟨rfl,n,rfl⟩)
 go_ret3
 exact ⟨rfl,n,rfl⟩
end Go.Proofs.YtfhelebejclalaaDoor.Path
end
