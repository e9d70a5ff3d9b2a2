/- Merged. -/
import Derived.Test.YtdhibldkldlfpaaGreatDoorRows
import Derived.WalkKit
import Derived.ProofKit
import Derived.Lib.Hide
import Derived.WalkSmall
import Derived.Deep.QuietTactic
import Derived.BigQuiet
import Derived.Lib.Bytes
import Derived.Lib.IndexLaws
import Derived.Test.YtdhibldkldlfpaaGreatDoorEmitOnceX1
import Derived.Lib.ConvBytes
namespace Go.Proofs.YtdhibldkldlfpaaGreatDoor
namespace Base
end Base
namespace bJ
end bJ
namespace Hp
end Hp
namespace cr
end cr
end Go.Proofs.YtdhibldkldlfpaaGreatDoor
section
namespace Go.Proofs.YtdhibldkldlfpaaGreatDoor.Base
open Go.RowKit Go.ChangeShapes Go.WideShapes
theorem own:ownKnob Tryz.prog.godebug=none:=by kernel_rfl
theorem laidOut:laidOutB Tryz.prog=true:=by kernel_rfl
def IsRow (k:IntKind) (w:World) (a:Option Addr) (len cap:Nat) (zs:List Int):Prop:=
 (a=none∧len=0∧cap=0∧zs=[])∨
 ∃x,a=some x∧len≤cap∧cap≤maxLen∧zs.length=cap∧(∀i,i<zs.length→w.cell? (x.add i)=some (.int k (zs.getD i 0)))∧∀n∈zs,(Lit.int k n).wf=true
theorem Tm {n:Int} (h:(Lit.int .i64 n).wf=true):-9223372036854775808≤n∧n≤9223372036854775807:=by
 have h1:IntKind.i64.min=-9223372036854775808:=rfl;have A:IntKind.i64.max=9223372036854775807:=rfl;simp only[Lit.wf,Bool.and_eq_true,decide_eq_true_eq]at h;omega
theorem PI {k:IntKind} {w:World} {a:Option Addr} {len cap:Nat} {zs:List Int} (h:IsRow k w a len cap zs) (hl:0<len):
 ∃b off,a=some ⟨b,off,none⟩∧len≤cap∧cap≤maxLen∧zs.length=cap∧b<w.heap.size∧(∀i,i<len→w.cell? ⟨b,off+i,none⟩=some (.int k ((zs.take len).getD i 0)))∧(zs.take len).length=len:=by
 rcases h with⟨_,h,_,_⟩|⟨x,rfl,h1,h2,h3,h4,_⟩
 ·omega
 ·obtain⟨b,off,spot⟩:=x
  have A:spot=none:=by simpa [Addr.add]using World.cell?_spot (h4 0 (by omega))
  subst A;refine⟨b,off,rfl,h1,h2,h3,?_,?_,?_⟩
  ·exact World.block_lt_of_cell? w _ (by simpa [Addr.add]using h4 0 (by omega))
  ·intro i hi
   rw[←WideShapes.add_plain,h4 i (by omega)];simp[List.getD,hi]
  ·rw[List.length_take];omega
end Go.Proofs.YtdhibldkldlfpaaGreatDoor.Base
namespace Go.Proofs.YtdhibldkldlfpaaGreatDoor
theorem Qh {p:Prop} (h:p):Go.RowKit.Hid p:=h
theorem Qa {α:Type _} {a:α} {l:List α}:(a::l)[0]? =some a:=rfl
theorem Qb {α:Type _} {a:α} {l:List α} {i:Nat}:(a::l)[i+1]? =l[i]? :=rfl
theorem Qc {α:Type _} {xs:List α} {i:Nat}:xs.toArray[i]? =xs[i]? :=List.getElem?_toArray
theorem Qd {α:Type _} {l:List α} {i:Nat} (h:i<l.length):l[i]? =some l[i]:=List.getElem?_eq_getElem h
theorem Qe {α:Type _} {i:Nat} {l:List α}:(l.drop i).length=l.length - i:=List.length_drop
theorem Qf {α:Type _} {xs ys:List α}:(xs++ys).length=xs.length+ys.length:=List.length_append
theorem Qg {α:Type _} {i:Nat} {l:List α}:(l.take i).length=min i l.length:=List.length_take
theorem Qi {α β:Type _} {xs:List α} (f:α→β):(xs.map f).length=xs.length:=List.length_map f
theorem Qj {α:Type _} {xs:Array α} {b:α} {i:Nat}:xs[i]? =some b↔∃h:i<xs.size,xs[i]=b:=Array.getElem?_eq_some_iff
theorem Qk (n:Nat):n≤n:=Nat.le_refl n
theorem Ql {α:Type _} {a:α} {i:Nat} {l:List α}:l[i]? =some a↔∃h:i<l.length,l[i]=a:=List.getElem?_eq_some_iff
end Go.Proofs.YtdhibldkldlfpaaGreatDoor
end
namespace Go.Proofs.YtdhibldkldlfpaaGreatDoor
set_option linter.unusedVariables false
open Go.ChangeShapes Go.WideShapes Go.ChangeAt Go.RowKit Base Go.Lib
namespace bJ
variable {xs:List Int} {k:Nat}
def cj (w:World) (p:Option Addr) (n:Nat) (bs:List UInt8):Prop:=
 0<n→∃b o,p=some ⟨b,o,none⟩∧∀i,i<n→w.cell? ⟨b,o+i,none⟩=some (.int .u8 (bs.getD i 0).toNat)
section
variable {w w':World} {p:Option Addr} {n:Nat} {bs:List UInt8}
theorem cj.cell (h:cj w p n bs) (hk:k<n):
 ∃b o,p=some ⟨b,o,none⟩∧b<w.heap.size∧∀i,i<n→w.cell? ⟨b,o+i,none⟩=some (.int .u8 (bs.getD i 0).toNat):=by
 obtain⟨b,o,rfl,hc⟩:=h (by omega);exact⟨b,o,rfl,World.block_lt_of_cell? _ _ (hc k hk),hc⟩
theorem cj.below (h:cj w p n bs) (hb:Below w.heap.size w w'):cj w' p n bs:=fun A=>by
 obtain⟨b,o,rfl,B,hc⟩:=h.cell A;exact⟨b,o,rfl,fun i hi=>by rw[hb.cell (p:=⟨b,o+i,none⟩) B];exact hc i hi⟩
theorem cj.none_ (w:World) (p:Option Addr):cj w p 0 []:=fun h=>absurd h (by omega)
theorem cj.alloc (h:cj w p n bs) (o:Obj):cj (w.alloc o) p n bs:=h.below ((Below.refl _ _).alloc (Qk _) o)
theorem cj.drop (h:cj w p n bs) {c:Nat} (hk:k≤n) (hc:n≤c) (hl:bs.length=n):cj w (if c=k then p else p.map (·.add k)) (n - k) (bs.drop k):=fun A=>by
 obtain⟨b,o,rfl,hcell⟩:=h (by omega);rw[if_neg (by omega)];refine⟨b,o+k,by simp[WideShapes.add_plain],fun i hi=>?_⟩;rw[Nat.add_assoc,hcell (k+i) (by omega)];simp[List.getD]
theorem cj.take (h:cj w p n bs) (hk:k≤n):cj w p k (bs.take k):=fun A=>by
 obtain⟨b,o,rfl,hc⟩:=h (by omega);exact⟨b,o,rfl,fun i hi=>by rw[hc i (by omega)];simp[List.getD,hi]⟩
end
theorem KB (x:UInt8):0≤(x.toNat:Int)∧(x.toNat:Int)≤255:=by have:=x.toNat_lt;omega
theorem wu (xs:List Int) (i:Nat) (h:i<xs.length) (hx:∀x∈xs,0≤x∧x<256):(((bytesOf xs).getD i 0).toNat:Int)=xs.getD i 0:=by
 have hm:=hx xs[i] (List.getElem_mem h);have e:(bytesOf xs).getD i 0=UInt8.ofNat (xs[i]).toNat:=by simp[bytesOf,List.getD,h]
 rw[e,UInt8.toNat_ofNat'];simp[List.getD,h];omega
theorem wf8 {n:Int} (h:(Lit.int .u8 n).wf=true):0≤n∧n<256:=by
 have h1:IntKind.u8.min=0:=rfl;have A:IntKind.u8.max=255:=rfl;simp only[Lit.wf,Bool.and_eq_true,decide_eq_true_eq]at h;omega
theorem pK {w:World} {p:Option Addr} {n:Nat} (hn:xs.length=n) (hx:∀x∈xs,0≤x∧x<256)
 (h:0<n→∃b o,p=some ⟨b,o,none⟩∧∀i,i<n→w.cell? ⟨b,o+i,none⟩=some (.int .u8 (xs.getD i 0))):cj w p n (bytesOf xs):=fun A=>by
 obtain⟨b,o,rfl,hc⟩:=h A;exact⟨b,o,rfl,fun i hi=>by rw[hc i hi,wu xs i (by omega) hx]⟩
theorem AJ {w:World} {a:Option Addr} {len cap:Nat} {zs:List Int} (h:IsRow .u8 w a len cap zs):cj w a len (bytesOf (zs.take len))∧(bytesOf (zs.take len)).length=len∧len≤cap∧cap≤maxLen:=by
 have E:∀x∈zs.take len,0≤x∧x<256:=fun x A=>by
  rcases h with⟨_,_,_,rfl⟩|⟨_,_,_,_,_,_,h⟩
  ·simp at A
  ·exact wf8 (h x (List.mem_of_mem_take A))
 have hl:(zs.take len).length=len∧len≤cap∧cap≤maxLen:=by
  rcases h with⟨_,rfl,rfl,rfl⟩|⟨_,_,h1,h2,h3,_,_⟩
  ·exact⟨rfl,by omega,by omega⟩
  ·exact⟨by rw[Qg];omega,h1,h2⟩
 refine⟨pK hl.1 E fun B=>?_,by rw[bytesOf_length];exact hl.1,hl.2.1,hl.2.2⟩;obtain⟨b,off,rfl,_,_,_,_,D,_⟩:=PI h B;exact⟨b,off,rfl,D⟩
theorem yi (bs:List UInt8):strOfNums (bs.map fun x=>(x.toNat:Int))=⟨bs.toArray⟩:=by
 apply ByteArray.ext;apply Array.toList_inj.1;rw[strOfNums_data,List.map_map];show _=bs
 conv=>rhs;rw[←List.map_id bs]
 apply List.map_congr_left;intro x _;simp
theorem cK {P:Program} {w:World} {p:Option Addr} {n:Nat} {bs:List UInt8} (h:cj w p n bs) (hn:bs.length=n) (src e dst:TypeId) (hs:P.underlying src=some (.slice e)) (he:P.underlying e=some (.int .u8)) (hd:P.underlying dst=some .string) (c:Nat):
 (convert src dst (.slice p n c)).run P w=.ok (.string ⟨bs.toArray⟩) w:=by
 by_cases A:0<n
 ·obtain⟨b,o,rfl,hc⟩:=h A
  rw[run_convert_bytes_arg w src e hs he b o n c (bs.map fun x=>(x.toNat:Int)) (by simpa using hn) (fun i hi=>by
   rw[hc i hi];simp[List.getD,Qd (show i<bs.length by omega)]) dst hd,yi]
 ·obtain rfl:n=0:=by omega
  obtain rfl:bs=[]:=List.eq_nil_of_length_eq_zero hn;rcases p with _|a
  ·rw[run_convert_bytes_nil w src e hs he 0 c dst hd];rfl
  ·have hl:(loadCells a 0).run P w=.ok (([]:List Int).map (Value.int .u8)).toArray w:=by
    have:=run_loadCells_list (P:=P) w a [] (fun j v B=>by simp at B)
    simpa using this
   rw[run_convert_bytes_string w src dst e _ 0 c hs he hd,run_bytesToString w a 0 c [] hl];rfl
theorem mT {w:World} {base:Nat} {e:TypeId} {v:Value} {n:Nat} (h:w.ownsRow base e 1 v n (xs.map (Value.int .u8))) (hx:∀x∈xs,0≤x∧x<256):
 ∃p c,v=.slice p n c∧n≤c∧c≤maxLen∧cj w p n (bytesOf xs)∧(bytesOf xs).length=n:=by
 have hl:xs.length=n:=by have:=h.1;simpa using this
 have A:(bytesOf xs).length=n:=by rw[bytesOf_length];exact hl
 rcases h.2 with⟨rfl,rfl⟩|⟨g,cap,cur,rfl,_,_,h1,h2,_⟩
 ·exact⟨none,0,rfl,by omega,by omega,fun h=>absurd h (by omega),A⟩
 ·refine⟨some ⟨g,0,none⟩,cap,rfl,h1,h2,pK hl hx fun B=>⟨g,0,rfl,fun i hi=>?_⟩,A⟩
  rw[Nat.zero_add,h.cellAt i (by omega),List.getElem?_map,Qd (by omega)];simp[List.getD,hl,hi]
end bJ
namespace cr
open bJ
def str (l:List UInt8):ByteArray:=⟨l.toArray⟩
theorem bg (l:List UInt8):(str l).data.toList=l:=by simp[str]
theorem PS (s:ByteArray):str s.data.toList=s:=by
 apply ByteArray.ext;simp[str]
theorem aA (l:List UInt8):(str l).size=l.length:=by simp[str,ByteArray.size]
theorem kF (a b:List UInt8):str a++str b=str (a++b):=by
 apply ByteArray.ext;simp[str,ByteArray.data_append]
theorem str_inj {a b:List UInt8} (h:str a=str b):a=b:=by
 have:=congrArg (fun s:ByteArray=>s.data.toList) h
 simpa [bg]using this
theorem ax (l:List UInt8):(str l).toList=l:=by rw[Lib.toList_data,bg]
theorem MI (a b:List UInt8):(str a==str b)=decide (a=b):=by
 by_cases h:a=b
 ·subst h
  simpa using (MapKept.bytes_beq (str a) (str a)).2 rfl
 ·cases hc:str a==str b with
  |true=>exact absurd (str_inj ((MapKept.bytes_beq _ _).1 hc)) h
  |false=>simpa using h
theorem di (l:List UInt8):(str l).toList.isEmpty=decide (l=[]):=by
 rw[ax]
 cases l<;>simp
theorem xB (l c:List UInt8):((str l).toList==c)=decide (l=c):=by
 rw[ax]
 by_cases h:l=c
 ·subst h;simp
 ·simp[h]
theorem tA (l:List UInt8) (k:Nat):(str l).extract 0 k=str (l.take k):=by
 apply ByteArray.ext;simp[str,ByteArray.data_extract]
theorem tz (l:List UInt8) (k n:Nat) (h:n=l.length):(str l).extract k n=str (l.drop k):=by
 subst h;apply ByteArray.ext;simp[str,ByteArray.data_extract,List.take_of_length_le]
theorem pe (l:List UInt8) (c:UInt8):decide (0≤Lib.indexByte l c)=l.contains c:=by
 induction l with
 |nil=>simp[Lib.indexByte]
 |cons b l ih=>
  have E:=Lib.indexByte_ge l c
  by_cases A:b=c
  ·subst A
   simp[Lib.indexByte]
  ·have B:(b==c)=false:=by simpa using A
   by_cases hi:Lib.indexByte l c=-1
   ·have e:Lib.indexByte (b::l) c=-1:=by simp[Lib.indexByte,B,hi]
    rw[hi]at ih;rw[e,List.contains_cons,←ih]
    simpa using fun h=>A h.symm
   ·have D:(Lib.indexByte l c==-1)=false:=by simpa using hi
    have e:Lib.indexByte (b::l) c=Lib.indexByte l c+1:=by simp[Lib.indexByte,B,D]
    rw[List.contains_cons,←ih,e,decide_eq_true (by omega),decide_eq_true (by omega),Bool.or_true]
theorem FD {l:List UInt8} {c:UInt8} (h:l.contains c=false) (i:Nat) (hi:i<l.length):l.getD i 0≠c:=fun e=>by
 have hm:c∈l:=by
  rw[←e,List.getD,Qd hi];exact List.getElem_mem hi
 have:=List.contains_iff_mem.2 hm;rw[h]at this
 cases this
end cr
end Go.Proofs.YtdhibldkldlfpaaGreatDoor
section
namespace Go.Proofs.YtdhibldkldlfpaaGreatDoor.Hp
structure ak where
 name:List UInt8
 link:List UInt8
 kind:UInt8
 mode:Int
 uid:Int
 gid:Int
 time:Int
 size:Int
 eG:Bool
def br:ak:=⟨[],[],0,0,0,0,0,0,false⟩
def jB (h:ak):Nat→Int
 |1=>h.mode|2=>h.uid|3=>h.gid|4=>h.size|5=>h.time|_=>0
deriving instance DecidableEq for ak
end Go.Proofs.YtdhibldkldlfpaaGreatDoor.Hp
namespace Go.Proofs.YtdhibldkldlfpaaGreatDoor.Head
open Go.ChangeShapes Go.WideShapes Go.ChangeAt Go.RowKit Base bJ cr Hp Go.Lib
set_option linter.unusedVariables false
set_option maxRecDepth 100000
theorem fi {w:World} {g:Nat} {cs:Array Value} {e:TypeId} (h:w.heap[g]? =some (.cells cs e (0,0))) (i:Nat):w.cell? ⟨g,i,none⟩=cs[i]? :=by
 simp[World.cell?,h]
def aa (h:ak):Array Value:=#[.string (str h.name),.string (str h.link),.int .u8 (h.kind.toNat:Int),.int .i64 h.mode,.int .i64 h.uid,.int .i64 h.gid,.int .i64 h.time,.int .i64 h.size,.bool h.eG]
def jQ (x:ak × Int):Value:=.tuple #[.agg (aa x.1),.int .i64 x.2]
theorem me (w:World) (g:Nat) (a b:ByteArray) (k m u i t z:Int) (n:Bool) (h:w.heap[g]? =some (.cells #[.string a,.string b,.int .u8 k,.int .i64 m,.int .i64 u,.int .i64 i,.int .i64 t,.int .i64 z,.bool n] 66 (0,0))):
 (loadVar 66 ⟨g,0,none⟩).run Tryz.prog w=.ok (.agg #[.string a,.string b,.int .u8 k,.int .i64 m,.int .i64 u,.int .i64 i,.int .i64 t,.int .i64 z,.bool n]) w:=by
 have c0:=fi h 0;have c1:=fi h 1;have c2:=fi h 2;have c3:=fi h 3;have A:=fi h 4;have c5:=fi h 5;have c6:=fi h 6;have c7:=fi h 7;have B:=fi h 8;clear h
 go_simp
end Go.Proofs.YtdhibldkldlfpaaGreatDoor.Head
end
namespace Go.Proofs.YtdhibldkldlfpaaGreatDoor
set_option linter.unusedVariables false
set_option maxRecDepth 100000
open Go.ChangeShapes Go.WideShapes Go.ChangeAt Go.RowKit Base
namespace Rec
open bJ cr Path Go.Lib
def tF (r:Option Nat):Value:=match r with
 |some n=>.tuple #[.int .i64 (n:Int),.bool true]
 |none=>.tuple #[.int .i64 0,.bool false]
theorem rI (w:World) (t:TypeId) (a b:Value):(w.alloc (.cells #[a,b] t)).cell? ⟨w.heap.size,0,none⟩=some a∧(w.alloc (.cells #[a,b] t)).cell? ⟨w.heap.size,1,none⟩=some b:=by
 have h:=heap_alloc_new w (.cells #[a,b] t);unfold World.cell?;rw[h];exact⟨rfl,rfl⟩
end Rec
namespace Rec
theorem fZ {w w':World} {B:Nat} {e:TypeId} {k:Nat} {v:Value} {n:Nat} {xs:List Value} (h:w.ownsRow B e k v n xs) (hb:Below w.heap.size w w'):w'.ownsRow B e k v n xs:=by
 refine⟨h.1,?_⟩;rcases h.2 with D|⟨g,cap,cur,rfl,E,A,G⟩
 ·exact .inl D
 ·exact .inr ⟨g,cap,cur,rfl,E,by rw[hb.block g (Array.getElem?_eq_some_iff.1 A).1];exact A,G⟩
end Rec
namespace bJ
open Go.Lib
theorem vG (w:World) (e:TypeId) (s:ByteArray):Below w.heap.size w (bytesWorld w e s):=
 ⟨rfl,rfl,rfl,by rw[bytesWorld_size];omega,fun k hk=>bytesWorld_at_old w e s k hk⟩
end bJ
end Go.Proofs.YtdhibldkldlfpaaGreatDoor
